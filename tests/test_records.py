"""Least tables, least rows, records of rows, and values that are alike."""

import random
import unittest

from lazytags.errors import InvalidRow, NotASetting, TooMany
from lazytags.records import least_records, least_rows, record_of, same_values
from lazytags.settings import Setting
from tests.makers import LAST, ODD, WRONG_THINGS, PlainRecords, cycle, random_setting, rows_up_to, tailed_cycle

FLIP = {"flip": (1, 0)}
# One ask counts the zeros modulo 4; the maps bring each other value to their place, so all values have to be counted.
MAPS = {"around": (1, 2, 3, 0), "swap": (1, 0, 2, 3), "join": (0, 0, 2, 3)}
ZEROS = (0, ((1, 0, 0, 0), (2, 1, 1, 1), (3, 2, 2, 2), (0, 3, 3, 3)), (0, 1, 2, 3))


class TestByHand(unittest.TestCase):
    def test_without_flip(self):
        table = least_records(Setting(2, None, {"odd": ODD}))
        self.assertEqual(table, ((0, 1), ((0, 1), (1, 0)), {}, {"odd": (0, 1)}))
        self.assertEqual(least_rows(Setting(2, None, {"odd": ODD})), [(), (1,)])

    def test_without_asks(self):
        self.assertEqual(least_records(Setting(1)), ((0,), ((0,),), {}, {}))
        table = least_records(Setting(3, {"up": (1, 2, 0)}, {}, True))
        self.assertEqual(table, ((0, 0, 0), ((0,),), {"up": (0,), "turn": (0,)}, {}))
        self.assertEqual(least_rows(Setting(3, {"up": (1, 2, 0)}, {}, True)), [()])
        self.assertEqual(record_of(Setting(3), (0, 1, 2)), 0)
        self.assertEqual(same_values(Setting(4, {"up": (1, 2, 3, 0)}, None, True)), [[0, 1, 2, 3]])

    def test_one_value(self):
        table = least_records(Setting(1, {"stay": (0,)}, {"any": (0, ((1,), (1,)), (0, 1))}, True))
        self.assertEqual(table, ((1,), ((0, 1), (1, 1)), {"stay": (0, 1), "turn": (0, 1)}, {"any": (0, 1)}))
        table = least_records(Setting(1, None, {"three": cycle(3)}))
        self.assertEqual(table, ((1,), ((0, 1, 2), (1, 2, 0), (2, 0, 1)), {}, {"three": (0, 1, 2)}))

    def test_turning_or_not(self):
        # Of the last value alone the first one need not be kept, unless the row may be turned round.
        self.assertEqual(least_rows(Setting(2, None, {"last": LAST})), [(), (0,), (1,)])
        table = least_records(Setting(2, None, {"last": LAST}))
        self.assertEqual(table, ((1, 2), ((0, 1, 2), (1, 1, 2), (2, 1, 2)), {}, {"last": (9, 0, 1)}))
        setting = Setting(2, None, {"last": LAST}, True)
        self.assertEqual(least_rows(setting), [(), (0,), (1,), (0, 1), (1, 0)])
        ones, joins, moves, answers = least_records(setting)
        self.assertEqual(ones, (1, 2))
        self.assertEqual(joins[0], (0, 1, 2, 3, 4))
        self.assertEqual(joins[1], (1, 1, 3, 3, 1))
        self.assertEqual(joins[3], (3, 1, 3, 3, 1))
        self.assertEqual(moves, {"turn": (0, 1, 2, 4, 3)})
        self.assertEqual(answers, {"last": (9, 0, 1, 1, 0)})

    def test_a_map_makes_more_records(self):
        # Is there a one? With the map flip also: is there a zero?
        ask = {"one": (0, ((0, 1), (1, 1)), (0, 1))}
        self.assertEqual(least_rows(Setting(2, None, ask)), [(), (1,)])
        table = least_records(Setting(2, FLIP, ask))
        self.assertEqual(table[2:], ({"flip": (0, 2, 1, 3)}, {"one": (0, 0, 1, 1)}))
        self.assertEqual(least_rows(Setting(2, FLIP, ask)), [(), (0,), (1,), (0, 1)])

    def test_constant_asks_and_states_that_are_not_reached(self):
        asks = {"five": (0, ((1, 0), (0, 1)), (5, 5)), "odd": (1, ((2, 2), (1, 2), (2, 1)), (9, 0, 1))}
        table = least_records(Setting(2, None, asks))
        self.assertEqual(table, ((0, 1), ((0, 1), (1, 0)), {}, {"five": (5, 5), "odd": (0, 1)}))

    def test_all_counts(self):
        for turning in [False, True]:
            setting = Setting(4, MAPS, {"zeros": ZEROS}, turning)
            rows = least_rows(setting)
            self.assertEqual(len(rows), 256)
            counts = [tuple(row.count(value) % 4 for value in range(4)) for row in rows]
            self.assertEqual(len(set(counts)), 256)
            self.assertEqual(rows[-1], (0,) * 3 + (1,) * 3 + (2,) * 3 + (3,) * 3)


class TestAgainstThePlainWay(unittest.TestCase):
    def test_random_settings(self):
        rng = random.Random(5)
        tried = 0
        sizes = {}
        while tried < 120:
            setting = random_setting(rng, rng.randint(1, 3), 3)
            plain = PlainRecords(setting, 25)
            if len(plain.rows) > 25:
                continue
            tried += 1
            sizes[len(plain.rows)] = True
            self.assertEqual(least_records(setting), plain.table())
            self.assertEqual(least_rows(setting), plain.rows)
            self.assertEqual(same_values(setting), plain.same_values())
            for row in rows_up_to(setting.size, 4):
                self.assertEqual(record_of(setting, row), plain.place(row))
        self.assertTrue(len(sizes) > 8)

    def test_kinds_of_what_is_returned(self):
        ones, joins, moves, answers = least_records(Setting(2, FLIP, {"odd": ODD}, True))
        for part in [ones, joins, *joins, *moves.values(), *answers.values()]:
            self.assertIs(type(part), tuple)
        self.assertEqual((type(moves), type(answers)), (dict, dict))
        self.assertEqual((sorted(moves), sorted(answers)), (["flip", "turn"], ["odd"]))
        self.assertIs(type(least_rows(Setting(1))), list)


class TestNew(unittest.TestCase):
    def test_what_was_returned_is_changed(self):
        setting = Setting(2, FLIP, {"odd": ODD})
        first = least_records(setting)
        first[2].clear()
        first[3]["odd"] = None
        self.assertEqual(least_records(setting)[2:], ({"flip": (0, 2, 1, 3)}, {"odd": (0, 0, 1, 1)}))
        least_rows(setting).clear()
        self.assertEqual(least_rows(setting), [(), (0,), (1,), (0, 1)])
        groups = same_values(setting)
        groups[0].append(7)
        groups.append([])
        self.assertEqual(same_values(setting), [[0], [1]])
        self.assertTrue(setting == Setting(2, FLIP, {"odd": ODD}))

    def test_order_of_the_keys_means_nothing(self):
        one = Setting(2, {"flip": (1, 0), "zero": (0, 0)}, {"odd": ODD, "last": LAST}, True)
        other = Setting(2, {"zero": (0, 0), "flip": (1, 0)}, {"last": LAST, "odd": ODD}, True)
        self.assertEqual(least_records(one), least_records(other))
        self.assertEqual(least_rows(one), least_rows(other))


class TestManyRecords(unittest.TestCase):
    def test_just_300(self):
        for turning in [False, True]:
            setting = Setting(1, {"stay": (0,)}, {"a": cycle(25), "b": cycle(12)}, turning)
            self.assertEqual(least_rows(setting), [(0,) * many for many in range(300)])
            ones, joins, moves, answers = least_records(setting)
            self.assertEqual(ones, (1,))
            self.assertEqual(joins, tuple(tuple((i + j) % 300 for j in range(300)) for i in range(300)))
            self.assertEqual(moves["stay"], tuple(range(300)))
            self.assertEqual(answers["b"], tuple(many % 12 for many in range(300)))
            self.assertEqual(record_of(setting, (0,) * 299), 299)
            self.assertEqual(record_of(setting, (0,) * 301), 1)

    def test_301(self):
        setting = Setting(1, None, {"a": tailed_cycle(1, 25), "b": cycle(12)})
        for call in [least_records, least_rows, lambda setting: record_of(setting, ())]:
            self.assertRaises(TooMany, call, setting)
        self.assertEqual(same_values(setting), [[0]])

    def test_other_sizes_about_300(self):
        # One ask counts the zeros, the other one the ones.
        asks = {"a": (0, tuple(((k + 1) % 20, k) for k in range(20)), tuple(range(20)))}
        asks["b"] = (0, tuple((k, (k + 1) % 15) for k in range(15)), tuple(range(15)))
        self.assertEqual(len(least_rows(Setting(2, None, asks))), 300)
        asks["b"] = (0, tuple((k, min(k + 1, 15)) for k in range(16)), tuple(range(16)))
        self.assertRaises(TooMany, least_rows, Setting(2, None, asks))

    def test_turning_makes_too_many(self):
        # Is the ninth value a one? Only if the rows may be turned round, the last nine are told from each other.
        ninth = (0, tuple((k + 1, k + 1) for k in range(8)) + ((9, 10), (9, 9), (10, 10)), (0,) * 10 + (1,))
        setting = Setting(2, None, {"ninth": ninth}, True)
        self.assertRaises(TooMany, least_records, setting)
        self.assertEqual(same_values(setting), [[0], [1]])

    def test_same_values_with_very_many_records(self):
        rng = random.Random(6)
        lines = []
        for _ in range(30):
            first, second = rng.randrange(30), rng.randrange(30)
            lines.append((first, second, first))
        machine = (0, tuple(lines), tuple(range(30)))
        self.assertEqual(same_values(Setting(3, None, {"a": machine}, True)), [[0, 2], [1]])
        self.assertEqual(same_values(Setting(3, {"swap": (0, 2, 1)}, {"a": machine}, True)), [[0], [1], [2]])
        self.assertEqual(same_values(Setting(3, {"keep": (0, 1, 0)}, {"a": machine})), [[0, 2], [1]])
        self.assertRaises(TooMany, least_rows, Setting(3, None, {"a": machine}))


class TestLongRows(unittest.TestCase):
    def test_long_rows(self):
        setting = Setting(2, FLIP, {"odd": ODD}, True)
        self.assertEqual(record_of(setting, (1, 1, 0) * 20), 0)
        self.assertEqual(record_of(setting, (1,) * 59), 2)
        for place, row in enumerate(least_rows(setting)):
            self.assertEqual(record_of(setting=setting, row=row), place)

    def test_long_least_rows(self):
        setting = Setting(2, None, {"ones": (0, tuple((k, min(k + 1, 29)) for k in range(30)), (0,) * 29 + (1,))})
        self.assertEqual(least_rows(setting), [(1,) * many for many in range(30)])
        self.assertEqual(record_of(setting, (0, 1) * 30), 29)


class TestErrors(unittest.TestCase):
    def test_not_a_setting_is_first(self):
        things = [thing for thing in WRONG_THINGS if not isinstance(thing, Setting)]
        calls = [least_records, least_rows, same_values, lambda thing: record_of(thing, None)]
        for thing in things:
            for call in calls:
                with self.assertRaises(NotASetting) as caught:
                    call(thing)
                self.assertEqual(caught.exception.thing, thing)

    def test_invalid_row_is_before_too_many(self):
        small = Setting(2, FLIP, {"odd": ODD})
        large = Setting(1, None, {"a": cycle(30), "b": cycle(29)})
        for row in [None, [], [0], (True,), (2,), (-1,), (0, None), "0", 0, {}, Setting(1)]:
            for setting in [small, large]:
                with self.assertRaises(InvalidRow) as caught:
                    record_of(setting, row)
                self.assertEqual(caught.exception.thing, row)
        self.assertRaises(InvalidRow, record_of, large, (1,))
        self.assertRaises(TooMany, record_of, large, (0,))


if __name__ == "__main__":
    unittest.main()
