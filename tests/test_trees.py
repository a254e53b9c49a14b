"""Trees: planted, split, with deeds done late, made neat; the pieces of ranges."""

import random
import unittest

from lazytags.errors import InvalidExpression, InvalidLength, InvalidRange, InvalidRow, LazyError, NoSuchDeed, NotASetting
from lazytags.errors import TooMany
from lazytags.records import least_records
from lazytags.settings import Setting
from lazytags.tables import row_of, worked
from lazytags.tags import tag_of, tag_words
from lazytags.trees import late, neat, pieces, planted, split
from tests.makers import LAST, NEST, ODD, WRONG_THINGS, PlainRecords, cycle, random_setting, rows_of_length, rows_up_to
from tests.makers import tailed_cycle
from tests.reckoning import plain_effect, plain_row, random_expression
from tests.test_tags import FIRST_OF_FOUR, MAPS_298, MAPS_304

FLIP = {"flip": (1, 0)}
ODDS = Setting(2, FLIP, {"odd": ODD}, True)
LASTS = Setting(2, {"flip": (1, 0), "one": (1, 1)}, {"last": LAST}, True)
NO_MAPS = Setting(3)
EMPTY, ZERO, ONE = ("empty",), ("value", 0), ("value", 1)
WRONG_TREES = [
    *WRONG_THINGS, (), ("empty", 0), ("value",), ("value", 2), ("value", -1), ("value", True), ("value", None), ["empty"],
    ("join", ZERO), ("join", ZERO, ONE, ONE), ("join", ZERO, 1), ("join", ("value", 5), ZERO), ("deed", "flip"),
    ("deed", "turns", ZERO), ("deed", None, ZERO), ("deed", "flip", 0), ("deed", "flip", ["value", 0]), ("odd", ZERO),
    ("join", ("deed", "turn", ZERO), ("deed", "flop", ZERO)), ("deed", ["flip"], ZERO), ("join", [], ZERO),
]
NO_PLACES = [None, True, False, -1, 5, 10 ** 99, "", "0", (0,), [0], {}, Setting(2), NEST]


def plain_planted(row):
    if len(row) < 2:
        return ("value", row[0]) if row else ("empty",)
    half = len(row) // 2
    return ("join", plain_planted(row[:half]), plain_planted(row[half:]))


def plain_split(setting, tree, place):
    """The trees into which a tree is split, and how many deeds were split on the way."""
    many = len(plain_row(setting, tree))
    if place == 0:
        return ("empty",), tree, 0
    if place == many:
        return tree, ("empty",), 0
    if tree[0] == "deed" and tree[1] == "turn":
        one, two, deeds = plain_split(setting, tree[2], many - place)
        return ("deed", "turn", two), ("deed", "turn", one), deeds + 1
    if tree[0] == "deed":
        one, two, deeds = plain_split(setting, tree[2], place)
        return ("deed", tree[1], one), ("deed", tree[1], two), deeds + 1
    first = len(plain_row(setting, tree[1]))
    if place == first:
        return tree[1], tree[2], 0
    if place < first:
        one, two, deeds = plain_split(setting, tree[1], place)
        return one, ("join", two, tree[2]), deeds
    one, two, deeds = plain_split(setting, tree[2], place - first)
    return ("join", tree[1], one), two, deeds


def plain_late(setting, tree, deed, start, stop):
    """The tree after a deed was done late, and how many deeds were split on the way."""
    if start == stop:
        return tree, 0
    one, rest, deeds = plain_split(setting, tree, start)
    two, three, more = plain_split(setting, rest, stop - start)
    many = len(plain_row(setting, tree))
    told = ("deed", deed, two)
    told = told if start == 0 else ("join", one, told)
    return (told if stop == many else ("join", told, three)), deeds + more


def many_parts(tree):
    return 1 + sum(many_parts(part) for part in tree[1:] if isinstance(part, tuple))


def depth(tree):
    return 1 + max([depth(part) for part in tree[1:] if isinstance(part, tuple)], default=0)


def plain_neat(tree, word_of):
    """The tree with each pile exchanged, where word_of tells the word for a tuple of deeds."""
    deeds = []
    while tree[0] == "deed":
        deeds.append(tree[1])
        tree = tree[2]
    if tree[0] == "join":
        tree = ("join", plain_neat(tree[1], word_of), plain_neat(tree[2], word_of))
    for deed in word_of(tuple(reversed(deeds))):
        tree = ("deed", deed, tree)
    return tree


def plain_words(plain):
    """The least tuple of deeds for each thing that deeds make of the records of the least table."""
    words = {plain_effect(plain, ()): ()}
    waiting = [()]
    for word in waiting:
        for deed in plain.setting.deeds:
            effect = plain_effect(plain, (*word, deed))
            if effect not in words:
                words[effect] = (*word, deed)
                waiting.append((*word, deed))
    return words


def chain(setting, rng, many=100):
    """A tree of so many parts within one another, with a deed or a join at each of them."""
    tree = ("value", 0)
    while depth(tree) < many:
        kind = rng.randrange(4)
        if kind == 0:
            tree = ("join", tree, ("value", rng.randrange(setting.size)))
        elif kind == 1:
            tree = ("join", ("value", rng.randrange(setting.size)), tree)
        else:
            tree = ("deed", rng.choice(setting.deeds), tree)
    return tree


def bushy(setting, rng):
    """A tree of just 400 parts, just 100 of them within one another."""
    kinds = ["join"] * 60 + ["deed"] * 33
    rng.shuffle(kinds)
    tree = ("value", 0)
    for kind in ["deed"] * 6 + kinds:
        if kind == "deed":
            tree = ("deed", rng.choice(setting.deeds), tree)
        else:
            side = EMPTY
            while many_parts(side) < 5:
                side = random_expression(rng, setting, 5)
            tree = rng.choice([("join", tree, side), ("join", side, tree)])
    return tree


class Refusals(unittest.TestCase):
    def refuses(self, kind, thing, call, *arguments):
        with self.assertRaises(LazyError) as caught:
            call(*arguments)
        self.assertIs(type(caught.exception), kind, (call, arguments))
        if thing is not None:
            self.assertEqual(vars(caught.exception), thing)


class TestPlanted(Refusals):
    def test_by_hand(self):
        self.assertEqual(planted(ODDS, ()), EMPTY)
        self.assertEqual(planted(ODDS, (1,)), ONE)
        self.assertEqual(planted(ODDS, (0, 1)), ("join", ZERO, ONE))
        self.assertEqual(planted(ODDS, (0, 1, 1)), ("join", ZERO, ("join", ONE, ONE)))
        self.assertEqual(planted(row=(0, 1, 1, 0, 0), setting=ODDS), (
            "join", ("join", ZERO, ONE), ("join", ONE, ("join", ZERO, ZERO))
        ))

    def test_all_short_rows_and_rows_of_many_values(self):
        rng = random.Random(1)
        for size in [1, 2, 3, 4]:
            setting = Setting(size)
            rows = rows_up_to(size, 5) + [tuple(rng.randrange(size) for _ in range(n)) for n in [*range(6, 61), 200, 300]]
            for row in rows:
                tree = planted(setting, row)
                self.assertEqual(tree, plain_planted(row))
                self.assertEqual(plain_row(setting, tree), row)
                self.assertEqual(many_parts(tree), max(1, 2 * len(row) - 1))
        self.assertEqual(depth(planted(ODDS, (0,) * 60)), 7)

    def test_errors(self):
        for thing in WRONG_THINGS:
            if not isinstance(thing, Setting):
                self.refuses(NotASetting, {"thing": thing}, planted, thing, None)
        for row in [thing for thing in WRONG_THINGS if thing != ()] + [(0, 2), [0, 1], (0, True), (0, -1), "01", ((0,),)]:
            self.refuses(InvalidRow, {"thing": row}, planted, ODDS, row)


class TestSplit(Refusals):
    def test_by_hand(self):
        tree = ("join", ("join", ZERO, ONE), ("join", ONE, ("join", ZERO, ZERO)))
        self.assertEqual(split(ODDS, tree, 0), (EMPTY, tree))
        self.assertEqual(split(ODDS, tree, 5), (tree, EMPTY))
        self.assertEqual(split(ODDS, tree, 1), (ZERO, ("join", ONE, tree[2])))
        self.assertEqual(split(ODDS, tree, 2), (tree[1], tree[2]))
        self.assertEqual(split(ODDS, tree, 3), (("join", tree[1], ONE), ("join", ZERO, ZERO)))
        self.assertEqual(split(place=4, tree=tree, setting=ODDS), (("join", tree[1], ("join", ONE, ZERO)), ZERO))

    def test_deeds_by_hand(self):
        one, two = ("join", ZERO, ZERO), ("join", ONE, ONE)
        flipped = ("deed", "flip", ("join", one, two))
        self.assertEqual(split(ODDS, flipped, 2), (("deed", "flip", one), ("deed", "flip", two)))
        turned = ("deed", "turn", ("join", one, ONE))
        self.assertEqual(split(ODDS, turned, 1), (("deed", "turn", ONE), ("deed", "turn", one)))
        self.assertEqual(split(ODDS, turned, 2), (
            ("deed", "turn", ("join", ZERO, ONE)), ("deed", "turn", ZERO)
        ))
        self.assertEqual(split(ODDS, turned, 3), (turned, EMPTY))
        both = ("deed", "turn", ("deed", "flip", ("deed", "turn", ("join", ZERO, two))))
        self.assertEqual(split(ODDS, both, 1), (
            ("deed", "turn", ("deed", "flip", ("deed", "turn", ZERO))),
            ("deed", "turn", ("deed", "flip", ("deed", "turn", two))),
        ))

    def test_empty_parts(self):
        for tree in [EMPTY, ("join", EMPTY, EMPTY), ("deed", "turn", EMPTY), ("deed", "flip", ("join", EMPTY, EMPTY))]:
            self.assertEqual(split(ODDS, tree, 0), (EMPTY, tree))
            self.refuses(InvalidRange, {"thing": 1}, split, ODDS, tree, 1)
        tree = ("join", EMPTY, ("join", ("join", ZERO, EMPTY), ("join", EMPTY, ONE)))
        self.assertEqual(split(ODDS, tree, 1), (("join", EMPTY, ("join", ZERO, EMPTY)), ("join", EMPTY, ONE)))
        # Only a cut at the very ends of the whole tree gives an empty part.
        self.assertEqual(split(ODDS, ("join", ("join", EMPTY, EMPTY), ONE), 1), (("join", ("join", EMPTY, EMPTY), ONE), EMPTY))
        self.assertEqual(split(ODDS, ("join", ("join", EMPTY, ZERO), ONE), 1), (("join", EMPTY, ZERO), ONE))
        self.assertEqual(split(ODDS, ONE, 1), (ONE, EMPTY))

    def test_each_place_of_many_trees(self):
        rng = random.Random(2)
        for _ in range(300):
            setting = random_setting(rng, rng.randint(1, 3), 2)
            tree = random_expression(rng, setting, rng.randint(1, 40))
            row = plain_row(setting, tree)
            for place in range(len(row) + 1):
                one, two, deeds = plain_split(setting, tree, place)
                self.assertEqual(split(setting, tree, place), (one, two))
                self.assertEqual([plain_row(setting, one), plain_row(setting, two)], [row[:place], row[place:]])
                if 0 < place < len(row):
                    self.assertEqual(many_parts(one) + many_parts(two), many_parts(tree) - 1 + deeds)

    def test_errors(self):
        for thing in [thing for thing in WRONG_THINGS if not isinstance(thing, Setting)]:
            self.refuses(NotASetting, {"thing": thing}, split, thing, None, None)
        for tree in WRONG_TREES:
            self.refuses(InvalidExpression, {"thing": tree}, split, ODDS, tree, None)
        tree = planted(ODDS, (0, 1, 1, 0))
        for place in NO_PLACES:
            self.refuses(InvalidRange, {"thing": place}, split, ODDS, tree, place)
        self.refuses(InvalidExpression, {"thing": ("deed", "turn", ZERO)}, split, Setting(2, FLIP), ("deed", "turn", ZERO), 0)


class TestLate(Refusals):
    def test_by_hand(self):
        tree = ("join", ZERO, ("join", ONE, ZERO))
        self.assertEqual(late(ODDS, tree, "flip", 0, 3), ("deed", "flip", tree))
        self.assertEqual(late(ODDS, tree, "turn", 1, 3), ("join", ZERO, ("deed", "turn", tree[2])))
        self.assertEqual(late(ODDS, tree, "turn", 0, 1), ("join", ("deed", "turn", ZERO), tree[2]))
        self.assertEqual(late(ODDS, tree, "flip", 1, 2), ("join", ("join", ZERO, ("deed", "flip", ONE)), ZERO))
        self.assertEqual(late(stop=2, start=0, deed="turn", tree=tree, setting=ODDS), (
            "join", ("deed", "turn", ("join", ZERO, ONE)), ZERO
        ))
        for place in range(4):
            self.assertEqual(late(ODDS, tree, "flip", place, place), tree)
        self.assertEqual(late(ODDS, EMPTY, "turn", 0, 0), EMPTY)
        # Parts without values at the ends stay within the range.
        wide = ("join", EMPTY, ("join", ONE, EMPTY))
        self.assertEqual(late(ODDS, wide, "flip", 0, 1), ("deed", "flip", wide))

    def test_through_deeds(self):
        tree = ("deed", "turn", ("join", ("join", ZERO, ZERO), ONE))
        self.assertEqual(late(ODDS, tree, "flip", 0, 2), (
            "join", ("deed", "flip", ("deed", "turn", ("join", ZERO, ONE))), ("deed", "turn", ZERO)
        ))
        self.assertEqual(late(ODDS, tree, "turn", 1, 2), (
            "join", ("join", ("deed", "turn", ONE), ("deed", "turn", ("deed", "turn", ZERO))), ("deed", "turn", ZERO)
        ))

    def test_each_range_of_many_trees(self):
        rng = random.Random(3)
        for _ in range(150):
            setting = random_setting(rng, rng.randint(1, 3), 2)
            tree = random_expression(rng, setting, rng.randint(1, 25))
            row = plain_row(setting, tree)
            for start in range(len(row) + 1):
                for stop in range(start, len(row) + 1):
                    for deed in setting.deeds:
                        expected, deeds = plain_late(setting, tree, deed, start, stop)
                        after = late(setting, tree, deed, start, stop)
                        self.assertEqual(after, expected)
                        changed = setting.after([deed], row[start:stop])
                        self.assertEqual(plain_row(setting, after), row[:start] + changed + row[stop:])
                        if start < stop:
                            self.assertEqual(many_parts(after), many_parts(tree) + 1 + deeds)

    def test_many_deeds_one_after_the_other(self):
        rng = random.Random(4)
        row = tuple(rng.randrange(2) for _ in range(60))
        tree = planted(LASTS, row)
        for _ in range(30):
            start = rng.randrange(61)
            stop = rng.randint(start, 60)
            deed = rng.choice(LASTS.deeds)
            tree = late(LASTS, tree, deed, start, stop)
            row = row[:start] + LASTS.after([deed], row[start:stop]) + row[stop:]
            self.assertEqual(row_of(LASTS, tree), row)

    def test_errors(self):
        tree = planted(ODDS, (0, 1, 1, 0))
        for thing in [thing for thing in WRONG_THINGS if not isinstance(thing, Setting)]:
            self.refuses(NotASetting, {"thing": thing}, late, thing, None, None, None, None)
        for wrong in WRONG_TREES:
            self.refuses(InvalidExpression, {"thing": wrong}, late, ODDS, wrong, None, None, None)
        for deed in ["odd", "", "turns", None, True, 0, ("flip",), ["flip"], {}, Setting(2), NEST]:
            self.refuses(NoSuchDeed, {"name": deed}, late, ODDS, tree, deed, None, None)
        self.refuses(NoSuchDeed, {"name": "turn"}, late, Setting(2, FLIP), tree, "turn", 0, 1)
        for place in NO_PLACES:
            self.refuses(InvalidRange, {"thing": (place, 4)}, late, ODDS, tree, "flip", place, 4)
            self.refuses(InvalidRange, {"thing": (0, place)}, late, ODDS, tree, "flip", 0, place)
            self.refuses(InvalidRange, {"thing": (place, place)}, late, ODDS, tree, "flip", place, place)
        self.refuses(InvalidRange, {"thing": (2, 1)}, late, ODDS, tree, "flip", 2, 1)


class TestNeat(Refusals):
    def test_by_hand(self):
        # Equivalent to flip: one deed less. Innermost is first.
        tree = ("deed", "one", ("deed", "turn", ("deed", "flip", ("join", ZERO, ONE))))
        self.assertEqual(neat(LASTS, tree), ("deed", "one", ("join", ZERO, ONE)))
        tree = ("deed", "turn", ("deed", "flip", ("join", ZERO, ONE)))
        self.assertEqual(neat(LASTS, tree), tree)
        # The word of turn and flip is flip and turn: flip innermost.
        tree = ("deed", "flip", ("deed", "turn", ("join", ZERO, ONE)))
        self.assertEqual(neat(setting=LASTS, tree=tree), ("deed", "turn", ("deed", "flip", ("join", ZERO, ONE))))

    def test_no_deeds_for_tag_0(self):
        tree = ("deed", "flip", ("deed", "turn", ("deed", "flip", ("deed", "turn", ("join", ZERO, ONE)))))
        self.assertEqual(neat(LASTS, tree), ("join", ZERO, ONE))
        self.assertEqual(neat(ODDS, ("deed", "turn", ("join", ZERO, ONE))), ("join", ZERO, ONE))
        # Without asks all deeds are equivalent, and none is the least.
        self.assertEqual(neat(Setting(2, FLIP, None, True), ("join", ("deed", "flip", ONE), ZERO)), ("join", ONE, ZERO))

    def test_piles_within_the_parts_of_others(self):
        inner = ("deed", "flip", ("deed", "flip", ("join", ("deed", "turn", ("deed", "turn", ONE)), ZERO)))
        tree = ("deed", "flip", ("deed", "one", ("join", inner, ("deed", "flip", EMPTY))))
        self.assertEqual(tag_of(LASTS, ("one", "flip")), tag_words(LASTS).index(("one", "flip")))
        self.assertEqual(neat(LASTS, tree), (
            "deed", "flip", ("deed", "one", ("join", ("join", ONE, ZERO), ("deed", "flip", EMPTY)))
        ))

    def test_nothing_else_is_changed(self):
        for tree in [EMPTY, ONE, ("join", EMPTY, EMPTY), ("join", ("join", EMPTY, ONE), EMPTY)]:
            self.assertEqual(neat(LASTS, tree), tree)
        # Not even where a deed does nothing to this row.
        self.assertEqual(neat(LASTS, ("deed", "turn", EMPTY)), ("deed", "turn", EMPTY))

    def test_against_an_own_reckoning(self):
        rng = random.Random(5)
        found = 0
        while found < 40:
            setting = random_setting(rng, rng.randint(1, 3), 3)
            plain = PlainRecords(setting, 12)
            if len(plain.rows) > 12:
                continue
            found += 1
            least = least_records(setting)
            words = plain_words(plain)
            for _ in range(20):
                tree = random_expression(rng, setting, rng.randint(1, 40))
                told = neat(setting, tree)
                self.assertEqual(told, plain_neat(tree, lambda deeds: words[plain_effect(plain, deeds)]))
                self.assertEqual(plain.place(plain_row(setting, told)), plain.place(plain_row(setting, tree)))
                self.assertEqual(worked(setting, least, told), worked(setting, least, tree))
                self.assertEqual(neat(setting, told), told)

    def test_too_many_whatever_the_tree_is(self):
        rich = Setting(1, {"stay": (0,)}, {"a": tailed_cycle(1, 25), "b": cycle(12)}, True)
        tagged = Setting(4, MAPS_304, {"first": FIRST_OF_FOUR}, True)
        for setting in [rich, tagged]:
            for tree in [EMPTY, ZERO, ("deed", "turn", ZERO), ("join", ZERO, ZERO)]:
                self.refuses(TooMany, {}, neat, setting, tree)
        just = Setting(1, {"stay": (0,)}, {"a": cycle(25), "b": cycle(12)}, True)
        self.assertEqual(neat(just, ("deed", "turn", ("deed", "stay", ZERO))), ZERO)
        many = Setting(4, MAPS_298, {"first": FIRST_OF_FOUR}, True)
        longest = tag_words(many)[-1]
        tree = ZERO
        for deed in longest + ("turn", "turn"):
            tree = ("deed", deed, tree)
        self.assertEqual(neat(many, tree), tree[2][2])
        # No TooMany where none is stated.
        self.assertEqual(late(rich, ZERO, "stay", 0, 1), ("deed", "stay", ZERO))
        self.assertEqual(split(rich, planted(rich, (0, 0)), 1), (ZERO, ZERO))

    def test_errors(self):
        for thing in [thing for thing in WRONG_THINGS if not isinstance(thing, Setting)]:
            self.refuses(NotASetting, {"thing": thing}, neat, thing, None)
        rich = Setting(2, {"flip": (1, 0)}, {"a": cycle(25, 2), "b": cycle(26, 2)}, True)
        for tree in WRONG_TREES:
            self.refuses(InvalidExpression, {"thing": tree}, neat, ODDS, tree)
            self.refuses(InvalidExpression, {"thing": tree}, neat, rich, tree)
        self.refuses(TooMany, {}, neat, rich, EMPTY)


class TestLargeTrees(unittest.TestCase):
    def test_400_parts_and_100_within_one_another(self):
        rng = random.Random(6)
        for setting in [ODDS, LASTS]:
            self.assertEqual(many_parts(bushy(setting, rng)), 400)
            for make in [chain, bushy]:
                for _ in range(5):
                    tree = make(setting, rng)
                    self.assertEqual(depth(tree), 100)
                    row = plain_row(setting, tree)
                    for place in {0, 1, len(row) // 2, len(row) - 1, len(row)}:
                        one, two, _ = plain_split(setting, tree, place)
                        self.assertEqual(split(setting, tree, place), (one, two))
                        for deed in setting.deeds:
                            stop = rng.randint(place, len(row))
                            expected, _ = plain_late(setting, tree, deed, place, stop)
                            self.assertEqual(late(setting, tree, deed, place, stop), expected)
                    words = tag_words(setting)
                    expected = plain_neat(tree, lambda deeds: words[tag_of(setting, deeds)])
                    self.assertEqual(neat(setting, tree), expected)

    def test_somewhat_beyond_the_limits(self):
        rng = random.Random(7)
        tree = chain(ODDS, rng, 200)
        row = row_of(ODDS, tree)
        one, two = split(ODDS, tree, len(row) // 2)
        self.assertEqual(row_of(ODDS, one) + row_of(ODDS, two), row)
        self.assertEqual(row_of(ODDS, late(ODDS, tree, "turn", 0, len(row))), row[::-1])
        self.assertEqual(least_records(ODDS)[3]["odd"][worked(ODDS, least_records(ODDS), neat(ODDS, tree))], sum(row) % 2)


def plain_ranges(low, high):
    """The ranges of all parts of a planted tree that have values, each with those of its parts."""
    half = low + (high - low) // 2
    if high - low < 2:
        return [((low, high), [])] if high > low else []
    inner = plain_ranges(low, half) + plain_ranges(half, high)
    return [((low, high), [place for place, _ in inner])] + inner


def plain_pieces(ranges, start, stop):
    within = [(place, inner) for place, inner in ranges if start <= place[0] and place[1] <= stop]
    inner = {place for _, places in within for place in places}
    return sorted(place for place, _ in within if place not in inner)


class TestPieces(Refusals):
    def test_by_hand(self):
        self.assertEqual(pieces(0, 0, 0), [])
        self.assertEqual(pieces(1, 0, 1), [(0, 1)])
        self.assertEqual(pieces(1, 1, 1), [])
        self.assertEqual(pieces(8, 0, 8), [(0, 8)])
        self.assertEqual(pieces(8, 1, 8), [(1, 2), (2, 4), (4, 8)])
        self.assertEqual(pieces(5, 0, 3), [(0, 2), (2, 3)])
        self.assertEqual(pieces(stop=4, start=1, length=5), [(1, 2), (2, 3), (3, 4)])
        self.assertEqual(pieces(5, 3, 5), [(3, 5)])

    def test_all_ranges_of_short_rows(self):
        for length in range(34):
            ranges = plain_ranges(0, length)
            for start in range(length + 1):
                for stop in range(start, length + 1):
                    told = pieces(length, start, stop)
                    self.assertEqual(told, plain_pieces(ranges, start, stop))
                    self.assertEqual(sorted(k for one, two in told for k in range(one, two)), list(range(start, stop)))
                    if length >= 2:
                        high = (length - 1).bit_length()
                        self.assertLessEqual(len(told), 2 * high)

    def test_ranges_of_200(self):
        ranges = plain_ranges(0, 200)
        for start in range(0, 201, 7):
            for stop in range(start, 201):
                told = pieces(200, start, stop)
                self.assertLessEqual(len(told), 16)
                if stop % 3 == 0 or stop == 200:
                    self.assertEqual(told, plain_pieces(ranges, start, stop))

    def test_they_are_parts_of_planted_trees(self):
        row = tuple(range(4)) * 3
        setting = Setting(4)
        waiting, found = [(0, planted(setting, row))], {}
        while waiting:
            start, tree = waiting.pop()
            many = len(plain_row(setting, tree))
            found[(start, start + many)] = plain_row(setting, tree)
            if tree[0] == "join":
                waiting += [(start, tree[1]), (start + len(plain_row(setting, tree[1])), tree[2])]
        for start in range(13):
            for stop in range(start, 13):
                told = [found[place] for place in pieces(12, start, stop)]
                self.assertEqual(sum(told, ()), row[start:stop])

    def test_no_fewer_parts_make_up_a_range(self):
        for length in range(9):
            places = [place for place, _ in plain_ranges(0, length)]
            for start in range(length + 1):
                fewest = {start: 0}
                for stop in range(start, length + 1):
                    ways = [fewest[one] for one, two in places if two == stop and one in fewest]
                    if ways:
                        fewest[stop] = min(ways) + 1
                    self.assertEqual(len(pieces(length, start, stop)), fewest[stop])

    def test_errors(self):
        for length in [None, True, False, -1, 201, 10 ** 99, "", "5", (5,), [], {}, Setting(2), NEST]:
            self.refuses(InvalidLength, {"length": length}, pieces, length, None, None)
        for place in [None, True, False, -1, 5, 10 ** 99, "", (0,), [0], {}, Setting(2), NEST]:
            self.refuses(InvalidRange, {"thing": (place, 4)}, pieces, 4, place, 4)
            self.refuses(InvalidRange, {"thing": (0, place)}, pieces, 4, 0, place)
        self.refuses(InvalidRange, {"thing": (3, 2)}, pieces, 4, 3, 2)
        self.refuses(InvalidRange, {"thing": (0, 201)}, pieces, 200, 0, 201)
        self.refuses(InvalidRange, {"thing": (1, 1)}, pieces, 0, 1, 1)


class TestAllShortTrees(unittest.TestCase):
    def test_split_and_late_of_all_trees_of_four_parts(self):
        setting = Setting(1, {"stay": (0,)}, None, True)
        trees = {1: [EMPTY, ZERO]}
        for many in range(2, 6):
            trees[many] = [("deed", deed, tree) for deed in setting.deeds for tree in trees[many - 1]]
            for left in range(1, many - 1):
                trees[many] += [("join", one, two) for one in trees[left] for two in trees[many - 1 - left]]
        for tree in [tree for many in trees for tree in trees[many]]:
            many = len(plain_row(setting, tree))
            for start in range(many + 1):
                self.assertEqual(split(setting, tree, start), plain_split(setting, tree, start)[:2])
                for stop in range(start, many + 1):
                    expected = plain_late(setting, tree, "turn", start, stop)[0]
                    self.assertEqual(late(setting, tree, "turn", start, stop), expected)

    def test_planted_of_all_rows_of_six_values(self):
        for row in rows_of_length(2, 6):
            self.assertEqual(planted(ODDS, row), plain_planted(row))


if __name__ == "__main__":
    unittest.main()
