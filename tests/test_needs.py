"""Asks that are determined by others, deeds that are free, and the least sets of them that are enough."""

import itertools
import random
import unittest

from lazytags.errors import LazyError, NoSuchAsk, NoSuchDeed, NotASetting, TooMany
from lazytags.needs import check_unfree, check_untold, enough, enough_deeds, unfree, untold
from lazytags.records import least_records
from lazytags.settings import Setting
from tests.makers import FIRST, LAST, NEST, ODD, WRONG_THINGS, PlainRecords, cycle, random_machine, rows_up_to
from tests.makers import tailed_cycle

FLIP = {"flip": (1, 0)}
EVEN = (0, ((0, 1), (1, 0)), (1, 0))
ANY = (0, ((1, 1), (1, 1)), (0, 1))
SEVEN = (0, ((0, 0),), (7,))
# Whether the number of ones is odd, and whether that of zeros is.
ODD_ZEROS = (0, ((1, 0), (0, 1)), (0, 1))
LENGTH = (0, ((1, 1), (0, 0)), (0, 1))
JUST_300 = Setting(1, {"stay": (0,)}, {"a": cycle(25), "b": cycle(12)}, True)
JUST_301 = Setting(1, {"stay": (0,)}, {"a": tailed_cycle(1, 25), "b": cycle(12)}, True)


def with_asks(setting, asks):
    return Setting(setting.size, setting.maps, {name: setting.asks[name] for name in asks}, setting.turning)


def with_deeds(setting, deeds):
    maps = {name: mapping for name, mapping in setting.maps.items() if name in deeds}
    return Setting(setting.size, maps, setting.asks, "turn" in deeds)


def many_records(setting):
    return len(PlainRecords(setting, 60).rows)


def plain_enough(setting, names, narrowed):
    """The least tuples of names, where narrowed makes the setting with these only: those that tell as many rows apart."""
    due = many_records(setting)
    found = []
    for many in range(len(names) + 1):
        for chosen in itertools.combinations(sorted(names), many):
            if not any(set(other) <= set(chosen) for other in found) and many_records(narrowed(setting, chosen)) == due:
                found.append(chosen)
    return found


def settings(rng, many):
    """Settings with several asks and deeds, but with few records."""
    found = 0
    while found < many:
        size = rng.randint(1, 3)
        maps = {name: tuple(rng.randrange(size) for _ in range(size)) for name in rng.sample("abcd", rng.randint(0, 3))}
        asks = {
            name: random_machine(rng, rng.randint(1, 3), size, rng.randint(1, 3))
            for name in rng.sample("abcd", rng.randint(0, 3))
        }
        setting = Setting(size, maps, asks, rng.random() < 0.6)
        plain = PlainRecords(setting, 20)
        if len(plain.rows) <= 20 and (len(plain.rows) > 3 or rng.random() < 0.1):
            found += 1
            yield setting, plain


class Judged(unittest.TestCase):
    def refuses(self, kind, thing, call, *arguments):
        with self.assertRaises(LazyError) as caught:
            call(*arguments)
        self.assertIs(type(caught.exception), kind, (call, arguments))
        self.assertEqual(vars(caught.exception), thing)

    def assert_rows(self, setting, thing):
        self.assertEqual([type(thing), len(thing)], [tuple, 2])
        for row in thing:
            self.assertEqual(type(row), tuple)
            self.assertTrue(all(type(value) is int and 0 <= value < setting.size for value in row))


class TestUntold(Judged):
    def test_by_hand(self):
        both = Setting(2, None, {"odd": ODD, "even": EVEN})
        self.assertIsNone(untold(both, "odd"))
        self.assertIsNone(untold(both, "even"))
        alone = Setting(2, None, {"odd": ODD})
        one, two = untold(alone, "odd")
        self.assertNotEqual(sum(one) % 2, sum(two) % 2)
        # An ask that always has the same answer is determined by no asks.
        self.assertIsNone(untold(Setting(2, None, {"seven": SEVEN}), "seven"))
        # With flip, the number of ones tells that of zeros; the turn makes the first value of the last one.
        self.assertIsNone(untold(Setting(2, FLIP, {"odd": ODD, "zeros": ODD_ZEROS}), "zeros"))
        self.assertIsNotNone(untold(Setting(2, None, {"odd": ODD, "zeros": ODD_ZEROS}), "zeros"))
        self.assertIsNone(untold(Setting(2, None, {"first": FIRST, "last": LAST}, True), "first"))
        self.assertIsNotNone(untold(Setting(2, None, {"first": FIRST, "last": LAST}), "first"))
        self.assertIsNone(untold(ask="odd", setting=both))

    def test_an_ask_may_be_determined_by_contexts_only(self):
        # The last value is 0 also if there is none: only behind a one does the empty row differ from one with a zero.
        setting = Setting(2, None, {"any": ANY, "last": (0, ((0, 1), (0, 1)), (0, 1))})
        self.assertEqual(setting.answer("last", ()), setting.answer("last", (0,)))
        self.assertIsNone(untold(setting, "any"))
        one, two = untold(setting, "last")
        self.assertEqual(len(one) > 0, len(two) > 0)
        self.assertNotEqual(setting.answer("last", one), setting.answer("last", two))

    def test_against_an_own_reckoning(self):
        rng = random.Random(11)
        seen = {True: 0, False: 0}
        for setting, plain in settings(rng, 80):
            for ask in setting.asks:
                less = PlainRecords(setting.without_ask(ask), 60)
                kinds = {}
                for row in plain.rows:
                    kinds.setdefault(less.answers(row), set()).add(setting.answer(ask, row))
                determined = all(len(answers) == 1 for answers in kinds.values())
                told = untold(setting, ask)
                self.assertEqual(told is None, determined)
                seen[determined] += 1
                if told is not None:
                    self.assert_rows(setting, told)
                    self.assertEqual(less.answers(told[0]), less.answers(told[1]))
                    self.assertNotEqual(setting.answer(ask, told[0]), setting.answer(ask, told[1]))
                    self.assertTrue(check_untold(setting, ask, told))
                    self.assertTrue(check_untold(setting, ask, told[::-1]))
                for one, two in rng.sample(list(itertools.product(rows_up_to(setting.size, 3), repeat=2)), 16):
                    due = less.answers(one) == less.answers(two) and setting.answer(ask, one) != setting.answer(ask, two)
                    self.assertEqual(check_untold(setting, ask, (one, two)), due)
        self.assertTrue(min(seen.values()) > 20, seen)

    def test_check_untold_of_anything(self):
        setting = Setting(2, None, {"odd": ODD, "any": ANY})
        self.assertTrue(check_untold(setting, "odd", ((0,), (1,))))
        self.assertTrue(check_untold(thing=((1, 1), (1,)), ask="odd", setting=setting))
        self.assertTrue(check_untold(setting, "odd", ((0,) * 200, (0,) * 59 + (1,))))
        wrong = [
            *WRONG_THINGS, (), ((0,),), ((0,), (1,), (1,)), [(0,), (1,)], ([0], (1,)), ((0,), [1]), ((0,), (2,)), ((-1,), (1,)),
            ((0,), (True,)), ((0,), "1"), ((0,), None), (0, 1), ((0,), (1, None)), "01", {"a": (0,), "b": (1,)}, ((), (1,)),
            ((0,), (0,)), ((0, 1), (1,)), (((0,), (1,)),), ((0,), Setting(2)),
        ]
        for thing in wrong:
            self.assertIs(check_untold(setting, "odd", thing), False, thing)

    def test_errors(self):
        for call in [untold, lambda setting, ask: check_untold(setting, ask, None)]:
            for thing in [thing for thing in WRONG_THINGS if not isinstance(thing, Setting)]:
                self.refuses(NotASetting, {"thing": thing}, call, thing, None)
            for name in ["flip", "turn", "", None, True, 0, ("a",), ["a"], {"a": 1}, Setting(1), NEST]:
                self.refuses(NoSuchAsk, {"name": name}, call, JUST_300, name)
                self.refuses(NoSuchAsk, {"name": name}, call, JUST_301, name)
            for ask in "ab":
                self.refuses(TooMany, {}, call, JUST_301, ask)
        # It does not matter that there are few records without the ask.
        self.refuses(TooMany, {}, untold, JUST_301, "a")

    def test_just_300_records(self):
        for ask, other in [("a", 12), ("b", 25)]:
            one, two = untold(JUST_300, ask)
            self.assertEqual((len(one) - len(two)) % other, 0)
            self.assertNotEqual(JUST_300.answer(ask, one), JUST_300.answer(ask, two))
            self.assertTrue(check_untold(JUST_300, ask, (one, two)))
            self.assertFalse(check_untold(JUST_300, ask, (one, one)))


class TestUnfree(Judged):
    def test_by_hand(self):
        setting = Setting(2, {"flip": (1, 0), "one": (1, 1)}, {"odd": ODD}, True)
        self.assertIsNone(unfree(setting, "turn"))
        # Both flip and one tell lengths apart, so each is free beside the other.
        self.assertIsNone(unfree(setting, "flip"))
        self.assertIsNone(unfree(setting, "one"))
        one, two = unfree(Setting(2, FLIP, {"odd": ODD}), "flip")
        self.assertEqual(sum(one) % 2, sum(two) % 2)
        self.assertNotEqual(len(one) % 2, len(two) % 2)
        one, two = unfree(Setting(2, None, {"last": LAST}, True), "turn")
        self.assertEqual(one[-1:], two[-1:])
        self.assertNotEqual(one[:1], two[:1])
        # Without asks each deed is free.
        self.assertIsNone(unfree(setting=Setting(2, FLIP, None, True), deed="flip"))
        self.assertIsNone(unfree(Setting(2, FLIP, None, True), "turn"))
        # A map and an ask may have one name.
        self.assertIsNotNone(unfree(Setting(2, {"odd": (1, 0)}, {"odd": ODD}), "odd"))

    def test_against_an_own_reckoning(self):
        rng = random.Random(12)
        seen = {True: 0, False: 0}
        for setting, plain in settings(rng, 80):
            for deed in setting.deeds:
                less = PlainRecords(setting.without_deed(deed), 60)
                free = len(less.rows) == len(plain.rows)
                told = unfree(setting, deed)
                self.assertEqual(told is None, free)
                seen[free] += 1
                if told is not None:
                    self.assert_rows(setting, told)
                    self.assertEqual(less.answers(told[0]), less.answers(told[1]))
                    self.assertNotEqual(plain.answers(told[0]), plain.answers(told[1]))
                    self.assertTrue(check_unfree(setting, deed, told))
                    self.assertTrue(check_unfree(setting, deed, told[::-1]))
                for one, two in rng.sample(list(itertools.product(rows_up_to(setting.size, 3), repeat=2)), 16):
                    due = less.answers(one) == less.answers(two) and plain.answers(one) != plain.answers(two)
                    self.assertEqual(check_unfree(setting, deed, (one, two)), due)
        self.assertTrue(min(seen.values()) > 20, seen)

    def test_check_unfree_of_anything(self):
        setting = Setting(2, FLIP, {"odd": ODD}, True)
        self.assertTrue(check_unfree(setting, "flip", ((), (0,))))
        self.assertTrue(check_unfree(thing=((1, 0, 0), (1, 0)), deed="flip", setting=setting))
        self.assertFalse(check_unfree(setting, "turn", ((), (0,))))
        self.assertFalse(check_unfree(setting, "flip", ((), (0, 0))))
        wrong = [
            *WRONG_THINGS, (), ((),), ((), (0,), ()), [(), (0,)], ([], (0,)), ((), [0]), ((), (2,)), ((), (-1,)), ((), (False,)),
            ((), "0"), ((), None), (0, 1), ((), (0, None)), "01", ((), ()), ((), (1,)), (((), (0,)),), ((), Setting(2)),
        ]
        for thing in wrong:
            self.assertIs(check_unfree(setting, "flip", thing), False, thing)

    def test_errors(self):
        for call in [unfree, lambda setting, deed: check_unfree(setting, deed, None)]:
            for thing in [thing for thing in WRONG_THINGS if not isinstance(thing, Setting)]:
                self.refuses(NotASetting, {"thing": thing}, call, thing, None)
            for name in ["a", "b", "", None, True, 0, ("stay",), ["stay"], {"stay": 1}, Setting(1), NEST]:
                self.refuses(NoSuchDeed, {"name": name}, call, JUST_300, name)
                self.refuses(NoSuchDeed, {"name": name}, call, JUST_301, name)
            for deed in ["stay", "turn"]:
                self.refuses(TooMany, {}, call, JUST_301, deed)
        self.refuses(NoSuchDeed, {"name": "turn"}, unfree, Setting(2, FLIP), "turn")

    def test_just_300_records(self):
        for deed in ["stay", "turn"]:
            self.assertIsNone(unfree(JUST_300, deed))
            self.assertFalse(check_unfree(JUST_300, deed, ((), (0,))))


class TestEnough(Judged):
    def test_without_asks_and_without_deeds(self):
        self.assertEqual(enough(Setting(2)), [()])
        self.assertEqual(enough_deeds(Setting(2)), [()])
        self.assertEqual(enough(Setting(2, FLIP, None, True)), [()])
        self.assertEqual(enough_deeds(Setting(2, FLIP, None, True)), [()])
        self.assertEqual(enough(Setting(2, None, {"odd": ODD})), [("odd",)])
        self.assertEqual(enough_deeds(Setting(2, None, {"odd": ODD})), [()])
        # Asks that always have the same answer are needed no more than none.
        self.assertEqual(enough(Setting(2, FLIP, {"seven": SEVEN, "eight": SEVEN})), [()])

    def test_several_least_sets_and_their_order(self):
        asks = {"even": EVEN, "odd": ODD, "length": LENGTH, "zeros": ODD_ZEROS}
        self.assertEqual(enough(Setting(2, None, asks)), [
            ("even", "length"), ("even", "zeros"), ("length", "odd"), ("length", "zeros"), ("odd", "zeros"),
        ])
        # Those of fewer asks first, though a name of theirs is greater.
        six = (0, tuple(((k + 1) % 6,) for k in range(6)), tuple(range(6)))
        three = (0, tuple(((k + 1) % 3,) for k in range(3)), tuple(range(3)))
        two = (0, tuple(((k + 1) % 2,) for k in range(2)), tuple(range(2)))
        self.assertEqual(enough(Setting(1, None, {"a": two, "b": three, "c": six})), [("c",), ("a", "b")])
        # All of them are needed.
        asks = {"b": FIRST, "a": LAST}
        self.assertEqual(enough(Setting(2, None, asks)), [("a", "b")])
        self.assertEqual(enough(Setting(2, None, asks, True)), [("a",), ("b",)])

    def test_several_least_sets_of_deeds(self):
        maps = {"zero": (0, 0), "flip": (1, 0), "one": (1, 1), "same": (0, 1)}
        self.assertEqual(enough_deeds(Setting(2, maps, {"odd": ODD}, True)), [("flip",), ("one",)])
        # Turn or not: the first value matters, and nothing but turn tells it.
        self.assertEqual(enough_deeds(Setting(2, FLIP, {"last": LAST}, True)), [("turn",)])
        self.assertEqual(enough_deeds(Setting(2, FLIP, {"first": FIRST, "last": LAST, "odd": ODD}, True)), [("flip",)])
        # Two maps that come to a third one: either that, or both.
        maps = {"b": (1, 2, 3, 0), "a": (2, 3, 0, 1), "c": (1, 0, 2, 3)}
        ask = (0, ((1, 0, 0, 0), (0, 1, 1, 1)), (0, 1))
        setting = Setting(4, maps, {"ask": ask})
        self.assertEqual(enough_deeds(setting), plain_enough(setting, setting.deeds, with_deeds))

    def test_against_an_own_reckoning(self):
        rng = random.Random(13)
        sizes = {}
        for setting, _ in settings(rng, 100):
            told = enough(setting)
            self.assertEqual(told, plain_enough(setting, setting.asks, with_asks))
            deeds = enough_deeds(setting)
            self.assertEqual(deeds, plain_enough(setting, setting.deeds, with_deeds))
            for found in [told, deeds]:
                self.assertIs(type(found), list)
                sizes[min(2, len(found))] = sizes.get(min(2, len(found)), 0) + 1
        self.assertTrue(sizes[1] > 100 and sizes[2] > 5, sizes)

    def test_four_asks_and_five_deeds(self):
        rng = random.Random(14)
        for _ in range(15):
            maps = {name: tuple(rng.randrange(2) for _ in range(2)) for name in "abcd"}
            asks = {name: random_machine(rng, 2, 2, 2) for name in "abcd"}
            setting = Setting(2, maps, asks, True)
            self.assertEqual(enough(setting), plain_enough(setting, setting.asks, with_asks))
            self.assertEqual(enough_deeds(setting), plain_enough(setting, setting.deeds, with_deeds))

    def test_just_300_records_and_more(self):
        self.assertEqual(enough(JUST_300), [("a", "b")])
        self.assertEqual(enough_deeds(JUST_300), [()])
        for setting in [JUST_301, Setting(2, FLIP, {"a": cycle(25, 2), "b": cycle(13, 2)}, True)]:
            self.refuses(TooMany, {}, enough, setting)
            self.refuses(TooMany, {}, enough_deeds, setting)
        # Also if some of the asks or deeds alone would be enough for few records.
        self.assertEqual(len(least_records(JUST_301.without_ask("a"))[1]), 12)

    def test_errors(self):
        for call in [enough, enough_deeds]:
            for thing in [thing for thing in WRONG_THINGS if not isinstance(thing, Setting)]:
                self.refuses(NotASetting, {"thing": thing}, call, thing)
            self.assertEqual(call(setting=Setting(1)), [()])


if __name__ == "__main__":
    unittest.main()
