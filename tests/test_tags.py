"""Tags: the tags of a setting, deeds that are equivalent, tag tables that are right or wrong."""

import itertools
import random
import unittest

from lazytags.errors import InvalidDeeds, InvalidTable, InvalidTags, NotASetting, TooMany
from lazytags.records import least_records, least_rows
from lazytags.settings import Setting
from lazytags.tables import check_records, cover
from lazytags.tags import check_tags, cover_tags, deeds_parted, least_tags, tag_of, tag_words
from tests.makers import FIRST, LAST, ODD, WRONG_THINGS, PlainRecords, cycle, random_setting, tailed_cycle
from tests.reckoning import blown, blown_tags, plain_effect, reached_tags

FLIP = {"flip": (1, 0)}
ODDS = Setting(2, FLIP, {"odd": ODD}, True)
TABLE = least_records(ODDS)
# The last value, and no other one, so that it matters whether a row was turned round.
LAST_FLIP = Setting(2, FLIP, {"last": LAST}, True)
# What is the first of four values?
FIRST_OF_FOUR = (0, ((1, 2, 3, 4), *[(k,) * 4 for k in range(1, 5)]), (0, 1, 2, 3, 4))
# Found by search: with turn, and an ask that tells all maps apart, the first four make 298 tags, the others 304. No
# setting within the limits has from 299 to 303 tags.
MAPS_298 = {"a": (0, 0, 0, 0), "b": (2, 1, 0, 0), "c": (3, 1, 0, 0), "d": (1, 3, 2, 0)}
MAPS_304 = {"a": (0, 1, 2, 0), "b": (3, 1, 0, 0), "c": (2, 1, 0, 3), "d": (1, 2, 0, 3)}
JUST_300 = Setting(1, {"stay": (0,)}, {"a": cycle(25), "b": cycle(12)}, True)
JUST_301 = Setting(1, {"stay": (0,)}, {"a": tailed_cycle(1, 25), "b": cycle(12)}, True)
WRONG_DEEDS = ["odd", "", None, True, 0, ("flip",), ["flip"], {}, "flip ", Setting(2)]


def some_settings(rng, many):
    """Settings with few records, but most of them with more than two, and the plain way to work them out."""
    found = 0
    while found < many:
        setting = random_setting(rng, rng.randint(1, 3), 3)
        plain = PlainRecords(setting, 20)
        if len(plain.rows) <= 20 and (len(plain.rows) > 2 or rng.random() < 0.05):
            found += 1
            yield setting, plain


class TestLeastTags(unittest.TestCase):
    def test_by_hand(self):
        self.assertEqual(least_tags(Setting(2)), (({},), ((0,),)))
        self.assertEqual(tag_words(Setting(2)), [()])
        # Without asks all deeds are equivalent.
        self.assertEqual(least_tags(Setting(2, FLIP, None, True)), (({"flip": 0, "turn": 0},), ((0,),)))
        # Deeds are put in order by their names: flip before turn.
        self.assertEqual(tag_words(LAST_FLIP), [(), ("flip",), ("turn",), ("flip", "turn")])
        steps, moves = least_tags(LAST_FLIP)
        self.assertEqual(steps, (
            {"flip": 1, "turn": 2}, {"flip": 0, "turn": 3}, {"flip": 3, "turn": 0}, {"flip": 2, "turn": 1},
        ))
        # Records: (), (0), (1), (0, 1), (1, 0).
        self.assertEqual(moves, ((0, 1, 2, 3, 4), (0, 2, 1, 4, 3), (0, 1, 2, 4, 3), (0, 2, 1, 3, 4)))

    def test_constant_maps(self):
        setting = Setting(2, {"one": (1, 1), "zero": (0, 0)}, {"odd": ODD}, True)
        self.assertEqual(tag_words(setting), [(), ("one",), ("zero",)])
        self.assertEqual(least_tags(setting)[0], (
            {"one": 1, "zero": 2, "turn": 0}, {"one": 1, "zero": 2, "turn": 1}, {"one": 1, "zero": 2, "turn": 2},
        ))

    def test_deeds_with_the_same_effect(self):
        # The maps b and c do the same, and a does what none do.
        setting = Setting(3, {"a": (0, 1, 2), "b": (1, 2, 0), "c": (1, 2, 0)}, {"z": (0, ((1, 0, 0), (0, 1, 1)), (0, 1))})
        self.assertEqual(tag_words(setting), [(), ("b",), ("b", "b")])
        self.assertEqual(least_tags(setting)[0], (
            {"a": 0, "b": 1, "c": 1}, {"a": 1, "b": 2, "c": 2}, {"a": 2, "b": 0, "c": 0},
        ))
        # The values 1 and 2 are alike, so a map that exchanges them does nothing.
        setting = Setting(3, {"swap": (0, 2, 1)}, {"z": (0, ((1, 0, 0), (0, 1, 1)), (0, 1))})
        self.assertEqual(tag_words(setting), [()])

    def test_against_the_plain_way(self):
        most = 0
        for setting, plain in some_settings(random.Random(31), 40):
            steps, moves = least_tags(setting)
            words = tag_words(setting)
            self.assertEqual((len(steps), len(moves)), (len(words), len(words)))
            self.assertEqual(len(set(moves)), len(moves))
            effects = {}
            for length in range(len(words[-1]) + 2):
                for deeds in itertools.product(setting.deeds, repeat=length):
                    effects.setdefault(plain_effect(plain, deeds), deeds)
            self.assertEqual(list(effects.values()), words)
            self.assertEqual(tuple(effects), moves)
            for tag, word in enumerate(words):
                self.assertEqual(sorted(steps[tag]), list(setting.deeds))
                for deed, further in steps[tag].items():
                    self.assertEqual(moves[further], plain_effect(plain, word + (deed,)))
            most = max(most, len(words))
        self.assertTrue(most > 5)

    def test_kinds_of_what_is_returned(self):
        steps, moves = least_tags(LAST_FLIP)
        for part in [steps, moves, *moves]:
            self.assertIs(type(part), tuple)
        self.assertEqual([type(step) for step in steps], [dict] * 4)
        self.assertIs(type(tag_words(LAST_FLIP)), list)
        self.assertEqual([type(word) for word in tag_words(LAST_FLIP)], [tuple] * 4)


class TestTooMany(unittest.TestCase):
    def test_records(self):
        steps, moves = least_tags(JUST_300)
        self.assertEqual((steps, moves), (({"stay": 0, "turn": 0},), (tuple(range(300)),)))
        self.assertEqual(tag_words(JUST_300), [()])
        self.assertEqual(tag_of(JUST_300, ["turn", "stay"]), 0)
        self.assertIsNone(deeds_parted(JUST_300, ["turn", "stay"], ()))
        for call in [
            lambda: least_tags(JUST_301),
            lambda: tag_words(JUST_301),
            lambda: tag_of(JUST_301, ()),
            lambda: deeds_parted(JUST_301, (), ()),
        ]:
            self.assertRaises(TooMany, call)

    def test_tags(self):
        setting = Setting(4, MAPS_298, {"first": FIRST_OF_FOUR}, True)
        steps, moves = least_tags(setting)
        self.assertEqual((len(steps), len(moves), len(set(moves))), (298, 298, 298))
        words = tag_words(setting)
        self.assertEqual(words, sorted(words, key=lambda word: (len(word), word)))
        for tag in range(0, 298, 7):
            self.assertEqual(tag_of(setting, words[tag]), tag)
        setting = Setting(4, MAPS_304, {"first": FIRST_OF_FOUR}, True)
        self.assertEqual(len(least_records(setting)[1]), 17)
        for call in [lambda: least_tags(setting), lambda: tag_words(setting), lambda: tag_of(setting, ())]:
            self.assertRaises(TooMany, call)
        # This one hangs on the records alone.
        self.assertIsNone(deeds_parted(setting, ("c", "c"), ()))
        self.assertEqual(deeds_parted(setting, ("c",), ()), (0,))
        still = Setting(4, MAPS_304, {"first": FIRST_OF_FOUR})
        self.assertEqual(len(tag_words(still)), 154)


class TestTagOf(unittest.TestCase):
    def test_tuples_and_lists(self):
        for kind in [tuple, list]:
            for deeds, tag in [
                ([], 0), (["flip"], 1), (["turn"], 2), (["turn", "flip"], 3), (["flip", "turn"], 3), (["flip", "flip"], 0),
                (["flip", "turn"] * 20, 0), (["flip"] * 39, 1), (["turn", "flip", "turn"], 1),
            ]:
                self.assertEqual(tag_of(LAST_FLIP, kind(deeds)), tag)
        self.assertEqual(tag_of(setting=ODDS, deeds=("turn",)), 0)

    def test_against_the_plain_way(self):
        rng = random.Random(32)
        for setting, plain in some_settings(rng, 25):
            _, moves = least_tags(setting)
            for _ in range(10):
                deeds = [rng.choice(setting.deeds) for _ in range(rng.randint(0, 12))] if setting.deeds else []
                self.assertEqual(moves[tag_of(setting, deeds)], plain_effect(plain, deeds))

    def test_invalid_deeds_before_too_many(self):
        for setting in [LAST_FLIP, Setting(4, MAPS_304 | {"d": (0, 1, 2, 3)}, {"first": FIRST_OF_FOUR}, True), JUST_301]:
            for deeds in [None, "turn", "", 0, {"turn": 1}, {}, Setting(2)]:
                with self.assertRaises(InvalidDeeds) as caught:
                    tag_of(setting, deeds)
                self.assertIsNone(caught.exception.place)
            for wrong in WRONG_DEEDS:
                for deeds in [["turn", wrong, None], ("turn", wrong)]:
                    with self.assertRaises(InvalidDeeds) as caught:
                        tag_of(setting, deeds)
                    self.assertEqual(caught.exception.place, 1)
        with self.assertRaises(InvalidDeeds) as caught:
            tag_of(Setting(2, FLIP), ["flip", "turn"])
        self.assertEqual(caught.exception.place, 1)


class TestDeedsParted(unittest.TestCase):
    def test_by_hand(self):
        self.assertIsNone(deeds_parted(ODDS, ("turn", "flip"), ["flip"]))
        self.assertEqual(deeds_parted(ODDS, ["flip"], ("turn",)), (0,))
        self.assertEqual(deeds_parted(LAST_FLIP, (), ("turn",)), (0, 1))
        self.assertEqual(deeds_parted(LAST_FLIP, ("flip",), ("flip", "turn")), (0, 1))
        self.assertIsNone(deeds_parted(LAST_FLIP, ("flip",) * 40, ["turn"] * 40))
        # Only the value 2 is replaced by something that is not alike.
        setting = Setting(3, {"a": (1, 0, 0)}, {"two": (0, ((0, 0, 1), (1, 1, 1)), (0, 1))})
        self.assertEqual(deeds_parted(setting=setting, deeds=["a"], other=[]), (2,))

    def test_least_row(self):
        rng = random.Random(33)
        told = {True: 0, False: 0}
        for setting, plain in some_settings(rng, 40):
            for _ in range(15):
                deeds, other = [
                    [rng.choice(setting.deeds) for _ in range(rng.randint(0, 4))] if setting.deeds else [] for _ in "ab"
                ]
                one, two = plain_effect(plain, deeds), plain_effect(plain, other)
                rows = [row for row, left, right in zip(plain.rows, one, two) if left != right]
                self.assertEqual(deeds_parted(setting, deeds, tuple(other)), rows[0] if rows else None)
                told[not rows] += 1
        self.assertTrue(min(told.values()) > 50)

    def test_errors_in_their_order(self):
        for wrong in [None, "turn", 0, {}, Setting(2)]:
            with self.assertRaises(InvalidDeeds) as caught:
                deeds_parted(JUST_301, wrong, ["no"])
            self.assertIsNone(caught.exception.place)
            with self.assertRaises(InvalidDeeds) as caught:
                deeds_parted(JUST_301, ["turn"], wrong)
            self.assertIsNone(caught.exception.place)
        for wrong in WRONG_DEEDS:
            with self.assertRaises(InvalidDeeds) as caught:
                deeds_parted(JUST_301, ("turn", "stay", wrong), None)
            self.assertEqual(caught.exception.place, 2)
            with self.assertRaises(InvalidDeeds) as caught:
                deeds_parted(JUST_301, ("turn", "stay"), [wrong, "no"])
            self.assertEqual(caught.exception.place, 0)


STEPS = ({"flip": 1, "turn": 0}, {"flip": 0, "turn": 1})
MOVES = ((0, 1, 2, 3), (0, 2, 1, 3))


class TestTagTables(unittest.TestCase):
    def assert_wrong(self, setting, table, tags, plain=None):
        """Judges a tag table that is wrong, and what is told of it."""
        told = check_tags(setting, table, tags)
        self.assertIsInstance(told, tuple)
        word, deeds, record = told
        self.assertEqual(word, "wrong")
        self.assertIsInstance(deeds, tuple)
        self.assertTrue(len(deeds) <= len(tags[0]))
        stands = cover(setting, table)
        self.assertIsNotNone(stands[record])
        tag, row = 0, least_rows(setting)[stands[record]]
        for deed in deeds:
            tag = tags[0][tag][deed]
        due = setting.after(deeds, row)
        plain = plain or PlainRecords(setting, 40)
        given = stands[tags[1][tag][record]]
        self.assertTrue(given is None or given != plain.place(due))
        self.assertEqual(check_tags(setting, table, tags), told)
        with self.assertRaises(InvalidTags) as caught:
            cover_tags(setting, table, tags)
        self.assertEqual(caught.exception.problem, told)

    def test_least_ones_are_right(self):
        for setting, plain in some_settings(random.Random(34), 25):
            table, tags = least_records(setting), least_tags(setting)
            self.assertIsNone(check_tags(setting, table, tags))
            self.assertEqual(cover_tags(setting, table, tags), tuple(range(len(tags[0]))))
        self.assertIsNone(check_tags(ODDS, TABLE, (STEPS, MOVES)))
        self.assertIsNone(check_tags(setting=ODDS, table=TABLE, thing=(STEPS, MOVES)))
        self.assertEqual(cover_tags(setting=ODDS, table=TABLE, tags=(STEPS, MOVES)), (0, 1))
        self.assertEqual(cover_tags(Setting(2), ((0, 0), ((0,),), {}, {}), (({}, {}), ((0,), (0,)))), (0, None))

    def test_tags_doubled_renamed_and_not_reached(self):
        rng = random.Random(35)
        missed = doubled = 0
        for setting, plain in some_settings(rng, 60):
            table, stands = blown(rng, least_records(setting), rng.randint(0, 3), rng.randint(0, 2))
            tags, meant = blown_tags(rng, least_tags(setting), cover(setting, table), rng.randint(0, 4), rng.randint(0, 2))
            self.assertIsNone(check_tags(setting, table, tags))
            reached = reached_tags(tags)
            told = cover_tags(setting, table, tags)
            self.assertEqual(told, tuple(own if tag in reached else None for tag, own in enumerate(meant)))
            missed += None in told
            doubled += len([own for own in told if own is not None]) > len(least_tags(setting)[0])
        self.assertTrue(min(missed, doubled) > 10)

    def test_moves_of_records_that_are_not_reached_do_not_matter(self):
        setting = Setting(1, {"stay": (0,)}, {"any": (0, ((1,), (1,)), (0, 1))})
        table = ((2,), ((0, 1, 2), (1, 1, 1), (2, 0, 2)), {"stay": (0, 0, 2)}, {"any": (0, 5, 1)})
        self.assertIsNone(check_records(setting, table))
        for record in range(3):
            self.assertIsNone(check_tags(setting, table, (({"stay": 0},), ((0, record, 2),))))
        # But a reached record may not become one that is not reached.
        self.assert_wrong(setting, table, (({"stay": 0},), ((1, 1, 2),)))
        self.assert_wrong(setting, table, (({"stay": 0},), ((0, 1, 1),)))
        self.assert_wrong(setting, table, (({"stay": 0},), ((0, 1, 0),)))

    def test_invalid_table_is_first(self):
        wrong = (TABLE[0], TABLE[1], TABLE[2], {"odd": (0, 0, 1, 0)})
        for table in [None, (), TABLE[:3], ((0, 0), ((0,),), {}, {}), wrong]:
            for call in [check_tags, cover_tags]:
                with self.assertRaises(InvalidTable) as caught:
                    call(ODDS, table, None)
                self.assertEqual(caught.exception.problem, check_records(ODDS, table))

    def assert_problem(self, thing, problem, setting=ODDS, table=TABLE):
        self.assertEqual(check_tags(setting, table, thing), problem, thing)
        with self.assertRaises(InvalidTags) as caught:
            cover_tags(setting, table, thing)
        self.assertEqual(caught.exception.problem, problem)

    def test_form(self):
        wrong = [
            *WRONG_THINGS, (), (STEPS,), (STEPS, MOVES, 0), [STEPS, MOVES], (list(STEPS), MOVES), (STEPS, list(MOVES)),
            ((), MOVES), (STEPS, ()), ((), ()), (STEPS, None), (None, MOVES), ({}, MOVES), (STEPS, {}),
        ]
        for thing in wrong:
            self.assert_problem(thing, ("form",))

    def test_steps(self):
        wrong = [None, 0, (), [], {}, {"flip": 0}, {"turn": 0}, {"flip": 0, "turn": 0, "a": 0}, {"flip": 0, "tur": 0}, (0, 1)]
        wrong += [{"flip": 0, "turn": tag} for tag in [-1, 2, True, False, None, "0", (0,), [], {}, Setting(1), 10 ** 99]]
        wrong += [{"flip": 2, "turn": 0}, Setting(2), {"flip": 0, "turn": 0, "": 0}, {"flip": 0, "odd": 0}, "ft"]
        for leads in wrong:
            self.assert_problem(((leads, STEPS[1]), MOVES), ("steps", 0))
            self.assert_problem(((STEPS[0], leads), MOVES), ("steps", 1))
            self.assert_problem(((STEPS[0], None, leads), (None,)), ("steps", 1))
        self.assert_problem((({}, {"a": 0}), ((0,), (0,))), ("steps", 1), Setting(2), ((0, 0), ((0,),), {}, {}))
        still = Setting(2, FLIP, {"odd": ODD})
        self.assert_problem((STEPS, MOVES), ("steps", 0), still, least_records(still))

    def test_moves(self):
        wrong = [None, 0, (), (0, 1, 2), (0, 1, 2, 3, 0), [0, 1, 2, 3], "0123", {}, Setting(1)]
        wrong += [(0, 1, 2, record) for record in [-1, 4, True, False, None, "0", (0,), [], {}, Setting(1), 10 ** 99]]
        for line in wrong:
            self.assert_problem((STEPS, (line, MOVES[1])), ("moves", 0))
            self.assert_problem((STEPS, (MOVES[0], line)), ("moves", 1))
            self.assert_problem((STEPS, (MOVES[0], line, None)), ("moves", 1))
        self.assert_problem((STEPS, MOVES[:1]), ("moves", 1))
        self.assert_problem((STEPS * 2, MOVES), ("moves", 2))
        self.assert_problem((STEPS * 2, MOVES * 2 + ((),)), ("moves", 4))
        self.assert_problem((STEPS, (*MOVES, MOVES[0])), ("moves", 2))
        self.assert_problem((STEPS, MOVES * 9), ("moves", 2))

    def test_wrong_by_hand(self):
        self.assert_wrong(ODDS, TABLE, (STEPS, MOVES[::-1]))
        self.assert_wrong(ODDS, TABLE, (STEPS, (MOVES[0], (0, 2, 1, 0))))
        self.assert_wrong(ODDS, TABLE, (({"flip": 0, "turn": 0},), MOVES[:1]))
        self.assert_wrong(ODDS, TABLE, (({"flip": 1, "turn": 1}, STEPS[1]), MOVES))
        self.assert_wrong(ODDS, TABLE, ((STEPS[0], {"flip": 1, "turn": 1}), MOVES))
        # Tags that are not reached do not matter.
        self.assertIsNone(check_tags(ODDS, TABLE, ((*STEPS, {"flip": 0, "turn": 2}), (*MOVES, (3, 3, 3, 3)))))

    def test_only_many_deeds_show_it(self):
        # Each flip leads to a new tag; only that of all flips but one, or what comes behind it, is wrong.
        for last in [0, 1]:
            steps = tuple({"flip": min(tag + 1, 49), "turn": tag} for tag in range(50))
            steps = (*steps[:49], {"flip": last, "turn": 49})
            moves = tuple(MOVES[tag % 2] for tag in range(50))
            told = None if last == 0 else ("flip",) * 50
            given = check_tags(ODDS, TABLE, (steps, moves))
            self.assertEqual(given if last == 0 else given[1], told)
            if last:
                self.assert_wrong(ODDS, TABLE, (steps, moves))
        moves = (*moves[:49], moves[0])
        self.assert_wrong(ODDS, TABLE, (steps, moves))

    def test_random_changes(self):
        rng = random.Random(36)
        told = {True: 0, False: 0}
        for setting, plain in some_settings(rng, 120):
            table, _ = blown(rng, least_records(setting), rng.randint(0, 2), rng.randint(0, 1))
            stands = cover(setting, table)
            (steps, moves), _ = blown_tags(rng, least_tags(setting), stands, rng.randint(0, 2), rng.randint(0, 1))
            steps, moves = [dict(leads) for leads in steps], [list(line) for line in moves]
            if rng.random() < 0.5 and setting.deeds:
                rng.choice(steps)[rng.choice(setting.deeds)] = rng.randrange(len(steps))
            else:
                rng.choice(moves)[rng.randrange(len(stands))] = rng.randrange(len(stands))
            tags = (tuple(steps), tuple(tuple(line) for line in moves))
            right = self.plainly_right(setting, plain, stands, tags)
            told[right] += 1
            if right:
                self.assertIsNone(check_tags(setting, table, tags))
            else:
                self.assert_wrong(setting, table, tags, plain)
        self.assertTrue(min(told.values()) > 20)

    def plainly_right(self, setting, plain, stands, tags):
        """Whether all tags do what is due, behind deeds that lead to each pair of a tag and an effect."""
        pairs = {(0, plain_effect(plain, ())): ()}
        waiting = [()]
        for deeds in waiting:
            tag = 0
            for deed in deeds:
                tag = tags[0][tag][deed]
            effect = plain_effect(plain, deeds)
            for record, own in enumerate(stands):
                if own is not None and stands[tags[1][tag][record]] != effect[own]:
                    return False
            for deed in setting.deeds:
                pair = (tags[0][tag][deed], plain_effect(plain, deeds + (deed,)))
                if pair not in pairs:
                    pairs[pair] = deeds + (deed,)
                    waiting.append(deeds + (deed,))
        return True


class TestCalls(unittest.TestCase):
    def test_not_a_setting_is_first(self):
        for thing in [thing for thing in WRONG_THINGS if not isinstance(thing, Setting)]:
            for call in [
                lambda: least_tags(thing),
                lambda: tag_words(thing),
                lambda: tag_of(thing, None),
                lambda: deeds_parted(thing, None, None),
                lambda: check_tags(thing, None, None),
                lambda: cover_tags(thing, None, None),
            ]:
                with self.assertRaises(NotASetting) as caught:
                    call()
                self.assertEqual(caught.exception.thing, thing)

    def test_what_was_returned_is_changed(self):
        steps, _ = least_tags(LAST_FLIP)
        steps[0].clear()
        steps[1]["flip"] = 3
        self.assertEqual(least_tags(LAST_FLIP)[0][:2], ({"flip": 1, "turn": 2}, {"flip": 0, "turn": 3}))
        tag_words(LAST_FLIP).clear()
        self.assertEqual(len(tag_words(LAST_FLIP)), 4)
        self.assertTrue(LAST_FLIP == Setting(2, FLIP, {"last": LAST}, True))

    def test_arguments_stay_as_they_were(self):
        deeds, other = ["flip", "turn"], ["turn"]
        tag_of(LAST_FLIP, deeds)
        deeds_parted(LAST_FLIP, deeds, other)
        self.assertEqual((deeds, other), (["flip", "turn"], ["turn"]))
        steps = ({"turn": 0, "flip": 1}, {"flip": 0, "turn": 1})
        check_tags(ODDS, TABLE, (steps, MOVES))
        cover_tags(ODDS, TABLE, (steps, MOVES))
        self.assertEqual([list(leads.items()) for leads in steps], [[("turn", 0), ("flip", 1)], [("flip", 0), ("turn", 1)]])
        wrong = (MOVES[0], (0, 1, 2, 3))
        self.assertEqual(check_tags(ODDS, TABLE, (steps, wrong)), check_tags(ODDS, TABLE, (STEPS, wrong)))

    def test_order_of_the_keys_means_nothing(self):
        asks = {"last": LAST, "first": FIRST}
        one = Setting(2, {"flip": (1, 0), "zero": (0, 0)}, asks, True)
        other = Setting(2, {"zero": (0, 0), "flip": (1, 0)}, dict(reversed(asks.items())), True)
        self.assertEqual(least_tags(one), least_tags(other))
        self.assertEqual(tag_words(one), tag_words(other))


if __name__ == "__main__":
    unittest.main()
