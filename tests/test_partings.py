"""Contexts: answers within them, rows that are the same, and contexts that tell rows apart."""

import random
import unittest

from lazytags.errors import InvalidForm, InvalidRow, NotASetting
from lazytags.machines import least_machine
from lazytags.partings import check_parting, in_context, parted
from lazytags.records import least_rows
from lazytags.settings import Setting
from tests.makers import FIRST, LAST, NEST, ODD, WRONG_THINGS, PlainRecords, cycle, plain_answer, random_machine
from tests.makers import random_setting, rows_up_to

FLIP = {"flip": (1, 0)}
ODDS = Setting(2, FLIP, {"odd": ODD}, True)
WRONG_ROWS = [None, [], [0], (True,), (2,), (-1,), (0, None), "0", 0, {}, Setting(1), NEST, (10 ** 99,)]
WRONG_CONTEXTS = [
    *WRONG_THINGS, (), ("odd", (), ()), ("odd", (), (), (), ()), ["odd", (), (), ()], ("even", (), (), ()),
    ("flip", (), (), ()), (None, (), (), ()), (["odd"], (), (), ()), (Setting(2), (), (), ()), ("odd", [], (), ()),
    ("odd", (2,), (), ()), ("odd", (True,), (), ()), ("odd", None, (), ()), ("odd", (), ["flip"], ()), ("odd", (), [], ()),
    ("odd", (), "flip", ()), ("odd", (), ("flop",), ()), ("odd", (), ("flip", None), ()), ("odd", (), (["flip"],), ()),
    ("odd", (), None, ()), ("odd", (), (), []), ("odd", (), (), (-1,)), ("odd", (), (), None), ("odd", (), (), "0"),
    ("odd", (), {"flip": 1}, ()),
]


class TestInContext(unittest.TestCase):
    def test_answers(self):
        setting = Setting(3, {"up": (1, 2, 0), "low": (0, 0, 1)}, {"last": (0, ((0, 1, 2),) * 3, (0, 1, 2))}, True)
        for context, row, told in [
            (("last", (), (), ()), (), 0),
            (("last", (2,), (), ()), (), 2),
            (("last", (2,), (), ()), (0, 1), 1),
            (("last", (2,), ("turn",), ()), (0, 1), 0),
            (("last", (), ("up",), ()), (0, 1), 2),
            (("last", (), ("up", "low"), ()), (0, 1), 1),
            (("last", (), ("low", "up"), ()), (0, 1), 1),
            (("last", (), ("low", "up", "turn"), ()), (2, 1), 2),
            # Deeds are done on the row alone.
            (("last", (0,), ("up", "turn"), (1,)), (2, 1), 1),
            (("last", (0, 2), ("up",), ()), (), 2),
        ]:
            self.assertEqual(in_context(setting, context, row), told)
        self.assertEqual(in_context(setting=ODDS, context=("odd", (1,) * 60, ("flip",) * 39, (0,) * 60), row=(0,) * 59), 1)

    def test_errors_in_their_order(self):
        for context in WRONG_CONTEXTS:
            for row in [(0,), None]:
                with self.assertRaises(InvalidForm) as caught:
                    in_context(ODDS, context, row)
                self.assertEqual(caught.exception.thing, context)
        for row in WRONG_ROWS:
            with self.assertRaises(InvalidRow) as caught:
                in_context(ODDS, ("odd", (), ("turn",), ()), row)
            self.assertEqual(caught.exception.thing, row)
        with self.assertRaises(InvalidForm):
            in_context(Setting(2, FLIP, {"odd": ODD}), ("odd", (), ("turn",), ()), (0,))


class TestParted(unittest.TestCase):
    def judged(self, setting, row, other):
        """What parted tells, after it was judged."""
        told = parted(setting, row, other)
        if told is None:
            return None
        self.assertIsInstance(told, tuple)
        ask, left, deeds, right = told
        machine = setting.asks[ask]
        for part in [left, deeds, right]:
            self.assertIsInstance(part, tuple)
        states = len(least_machine(machine)[1])
        self.assertTrue(len(left) <= states - 1)
        self.assertTrue(len(right) <= states - 2)
        answers = [plain_answer(machine, left + setting.after(deeds, each) + right) for each in [row, other]]
        self.assertNotEqual(*answers)
        self.assertEqual([in_context(setting, told, row), in_context(setting, told, other)], answers)
        self.assertIs(check_parting(setting, row, other, told), True)
        self.assertEqual(parted(setting, row, other), told)
        return told

    def test_by_hand(self):
        # A context is the only one in which the answers differ.
        last = Setting(2, None, {"last": LAST})
        self.assertEqual(self.judged(last, (0,), (1,)), ("last", (), (), ()))
        self.assertIsNone(self.judged(last, (0, 1), (1, 1)))
        self.assertEqual(self.judged(Setting(2, None, {"last": LAST}, True), (0, 1), (1, 1))[2], ("turn",))
        two = Setting(2, {"up": (1, 1)}, {"two": (0, ((0, 1), (1, 2), (2, 2)), (0, 0, 1))})
        self.assertEqual(self.judged(two, (0, 0), (0,)), ("two", (), ("up",), ()))
        self.assertIn(self.judged(two, (0,), (1,)), [("two", (1,), (), ()), ("two", (), (), (1,))])
        ask = (0, ((1, 3), (3, 2), (4, 3), (3, 3), (4, 4)), (0, 0, 0, 0, 1))
        self.assertIn(self.judged(Setting(2, None, {"a": ask}), (1,), (0,)), [("a", (0,), (), (0,)), ("a", (), (), (1, 0))])

    def test_words_of_several_deeds(self):
        # Only if the value 3 becomes 0, which takes three steps, the ask tells it from the value 2.
        setting = Setting(4, {"down": (0, 0, 1, 2)}, {"a": (0, ((0, 1, 1, 1), (1, 1, 1, 1)), (0, 1))})
        self.assertEqual(self.judged(setting, (2,), (3,)), ("a", (), ("down", "down"), ()))

    def test_rows_that_are_the_same(self):
        for row in [(), (0,), (0, 1, 1)]:
            self.assertIsNone(parted(ODDS, row, row))
        self.assertIsNone(parted(ODDS, (0, 1), (1, 0)))
        self.assertIsNone(parted(ODDS, (1, 1), (0, 0)))
        self.assertIsNone(parted(ODDS, (1,) * 60, ()))
        self.assertIsNone(parted(Setting(2), (0, 1), ()))
        self.assertIsNone(parted(Setting(2, FLIP, {"five": (0, ((1, 0), (0, 1)), (5, 5))}, True), (0, 1), ()))
        self.assertIsNone(parted(setting=Setting(1, None, {"c": cycle(30)}), row=(0,) * 31, other=(0,)))

    def test_against_the_plain_way(self):
        rng = random.Random(21)
        told = {True: 0, False: 0}
        tried = 0
        while tried < 60:
            setting = random_setting(rng, rng.randint(1, 3), 3)
            plain = PlainRecords(setting, 25)
            if len(plain.rows) > 25 or (len(plain.rows) < 3 and tried % 10):
                continue
            tried += 1
            rows = rows_up_to(setting.size, 4)
            for _ in range(20):
                row, other = rng.choice(rows), rng.choice(rows)
                same = self.judged(setting, row, other) is None
                self.assertEqual(same, plain.place(row) == plain.place(other))
                told[same] += 1
            for row in plain.rows:
                self.assertEqual(self.judged(setting, row, plain.rows[-1]) is None, row == plain.rows[-1])
        self.assertTrue(min(told.values()) > 100)

    def test_settings_with_very_many_records(self):
        rng = random.Random(22)
        maps = {"a": (1, 2, 0), "b": (1, 0, 2), "c": (0, 0, 2)}
        for turning in [False, True]:
            for _ in range(6):
                setting = Setting(3, maps, {name: random_machine(rng, 30, 3, 2) for name in "abcd"}, turning)
                for length in [1, 5, 60]:
                    row = tuple(rng.randrange(3) for _ in range(length))
                    at = rng.randrange(length)
                    other = row[:at] + ((row[at] + 1) % 3,) + row[at + 1:]
                    self.assertIsNotNone(self.judged(setting, row, other))
                    self.assertIsNone(self.judged(setting, row, row))
        # Zeros and twos lead each state to the same one, with and without the map.
        lines = []
        for _ in range(30):
            first, second = rng.sample(range(30), 2)
            lines.append((first, second, first))
        setting = Setting(3, {"keep": (0, 1, 0)}, {"a": (0, tuple(lines), tuple(range(30)))}, True)
        for _ in range(10):
            row = tuple(rng.randrange(3) for _ in range(60))
            other = tuple(rng.choice([0, 2]) if value != 1 else 1 for value in row)
            self.assertIsNone(self.judged(setting, row, other))
            self.assertIsNotNone(self.judged(setting, row, other[:-1] + ((1,) if row[-1] != 1 else (0,))))

    def test_a_right_as_long_as_allowed(self):
        # The machine counts ones up to 29: rows of no and of one value differ only together with 28 more ones.
        ask = (0, tuple((k, min(k + 1, 29)) for k in range(30)), (0,) * 29 + (1,))
        told = self.judged(Setting(2, None, {"ones": ask}), (0,), (1,))
        self.assertEqual(len(told[1]) + len(told[3]), 28)
        # Only the value behind 27 others matters.
        lines = tuple((k + 1, k + 1) for k in range(27)) + ((28, 29), (28, 28), (29, 29))
        told = self.judged(Setting(2, None, {"a": (0, lines, (0,) * 28 + (1, 2))}), (0,), (1,))
        self.assertEqual((len(told[1]), told[3]), (27, ()))

    def test_rows_that_the_package_returned(self):
        setting = Setting(1, None, {"a": cycle(25), "b": cycle(12)}, True)
        rows = least_rows(setting)
        self.assertIsNotNone(self.judged(setting, rows[299], rows[298]))
        self.assertIsNone(self.judged(setting, rows[299] + (0,), ()))

    def test_invalid_rows_in_their_order(self):
        for row in WRONG_ROWS:
            for call in [parted, lambda *rows: check_parting(*rows, None)]:
                with self.assertRaises(InvalidRow) as caught:
                    call(ODDS, row, "wrong, too")
                self.assertEqual(caught.exception.thing, row)
                with self.assertRaises(InvalidRow) as caught:
                    call(ODDS, (0,), row)
                self.assertEqual(caught.exception.thing, row)


class TestCheckParting(unittest.TestCase):
    def test_contexts(self):
        for thing, told in [
            (("odd", (), ("flip",), ()), True),
            (("odd", (), (), ()), False),
            (("odd", (1, 1, 1), ("turn", "flip"), (0,)), True),
            (("odd", (1, 1, 1), ("flip", "flip"), (0,)), False),
        ]:
            self.assertIs(check_parting(ODDS, (), (0,), thing), told)
            self.assertIs(check_parting(ODDS, other=(), row=(0,), thing=thing), told)
            self.assertIs(check_parting(ODDS, (0, 1), (1, 0), thing), False)
        # Contexts may be longer than those that are told.
        self.assertIs(check_parting(ODDS, (), (1,), ("odd", (1,) * 60, ("flip",) * 40, (1,) * 60)), True)

    def test_things_that_are_no_contexts(self):
        for thing in WRONG_CONTEXTS:
            self.assertIs(check_parting(ODDS, (), (1,), thing), False)
        self.assertIs(check_parting(Setting(2, None, {"odd": ODD}), (), (1,), ("odd", (), ("turn",), ())), False)
        self.assertIs(check_parting(Setting(2, None, {"odd": ODD}), (), (1,), ("odd", (), (), ())), True)
        self.assertIs(check_parting(Setting(1, None, {"c": cycle(2)}), (), (0,), ("c", (1,), (), ())), False)

    def test_all_contexts_of_a_small_setting(self):
        setting = Setting(2, FLIP, {"last": LAST, "first": FIRST}, True)
        rows = rows_up_to(2, 2)
        for ask, machine in setting.asks.items():
            for deeds in [(), ("flip",), ("turn",), ("turn", "flip")]:
                for left in rows:
                    for right in rows:
                        answers = [plain_answer(machine, left + setting.after(deeds, row) + right) for row in [(0,), (1, 0)]]
                        context = (ask, left, deeds, right)
                        self.assertIs(check_parting(setting, (0,), (1, 0), context), answers[0] != answers[1])


class TestCalls(unittest.TestCase):
    def test_not_a_setting_is_first(self):
        for thing in [thing for thing in WRONG_THINGS if not isinstance(thing, Setting)]:
            for call in [
                lambda: in_context(thing, None, None),
                lambda: parted(thing, None, None),
                lambda: check_parting(thing, None, None, None),
            ]:
                with self.assertRaises(NotASetting) as caught:
                    call()
                self.assertEqual(caught.exception.thing, thing)

    def test_nothing_is_changed(self):
        thing = ["odd", [1], ["flip"], []]
        check_parting(ODDS, (), (1,), thing)
        self.assertRaises(InvalidForm, in_context, ODDS, thing, (0,))
        self.assertEqual(thing, ["odd", [1], ["flip"], []])
        parted(ODDS, (), (1,))
        self.assertTrue(ODDS == Setting(2, FLIP, {"odd": ODD}, True))
        one = Setting(2, {"flip": (1, 0), "zero": (0, 0)}, {"odd": ODD, "last": LAST}, True)
        other = Setting(2, {"zero": (0, 0), "flip": (1, 0)}, {"last": LAST, "odd": ODD}, True)
        for row in rows_up_to(2, 3):
            self.assertEqual(parted(one, row, (1, 0)), parted(other, row, (1, 0)))


if __name__ == "__main__":
    unittest.main()
