"""The time: each call at the limits returns within a few seconds."""

import random
import time
import unittest

from lazytags.errors import TooMany
from lazytags.machines import answer, check_machine, least_machine, machines_parted, mapped, turned
from lazytags.records import least_records, least_rows, record_of, same_values
from lazytags.settings import Setting
from tests.makers import cycle, random_machine
from tests.test_machines import ALSO_300, JUST_300

SECONDS = 4
# The maps of each of these dicts come to all maps of their size.
ALL_MAPS = {
    2: {"a": (1, 0), "b": (0, 0), "c": (1, 1), "d": (0, 1)},
    3: {"a": (1, 2, 0), "b": (1, 0, 2), "c": (0, 0, 2), "d": (2, 2, 2)},
    4: {"a": (1, 2, 3, 0), "b": (1, 0, 2, 3), "c": (0, 0, 2, 3), "d": (3, 3, 3, 3)},
}


def counting(value, many, size):
    """A machine that counts one value modulo a number."""
    steps = tuple(
        tuple((state + 1) % many if other == value else state for other in range(size)) for state in range(many)
    )
    return (0, steps, tuple(range(many)))


class TestTime(unittest.TestCase):
    def in_time(self, call, *arguments):
        before = time.perf_counter()
        try:
            told = call(*arguments)
        except TooMany:
            told = None
        self.assertLess(time.perf_counter() - before, SECONDS, call)
        return told

    def test_machines_at_the_limits(self):
        rng = random.Random(7)
        for states, size in [(6, 4), (30, 3), (30, 2), (30, 1)]:
            for _ in range(10):
                one = random_machine(rng, states, size, 2)
                other = random_machine(rng, states, size, 2)
                self.assertIsNone(self.in_time(check_machine, one, size))
                self.in_time(answer, one, (size - 1,) * 60)
                self.in_time(least_machine, one)
                self.in_time(machines_parted, one, other)
                self.assertIsNone(self.in_time(machines_parted, one, least_machine(one)))
                self.in_time(mapped, one, tuple(rng.randrange(size) for _ in range(4)))
                self.in_time(turned, one)

    def test_machines_that_need_many_rounds(self):
        # The states are told apart one after the other only.
        for size in [1, 2, 3]:
            chain = (0, tuple((min(state + 1, 29),) * size for state in range(30)), (0,) * 29 + (1,))
            self.assertEqual(self.in_time(least_machine, chain), chain)
            self.assertEqual(self.in_time(turned, chain), chain)

    def test_returned_machines_of_300_states(self):
        one, other = turned(JUST_300), turned(ALSO_300)
        for machine in [one, other]:
            self.assertEqual(self.in_time(least_machine, machine), machine)
            self.assertIsNone(self.in_time(machines_parted, machine, machine))
            self.in_time(mapped, machine, (0, 1, 2, 0))
            self.assertTrue(len(self.in_time(turned, machine)[1]) <= 6)
        shorter = self.in_time(mapped, one, (0, 1, 2))
        self.assertIsNotNone(self.in_time(machines_parted, shorter, other))

    def test_settings_at_the_limits(self):
        rng = random.Random(8)
        for states, size in [(6, 4), (30, 3), (30, 2)]:
            for turning in [False, True]:
                asks = {name: random_machine(rng, states, size, 2) for name in "abcd"}
                setting = Setting(size, ALL_MAPS[size], asks, turning)
                for call in [least_records, least_rows, same_values]:
                    self.in_time(call, setting)
                self.in_time(record_of, setting, (0,) * 60)

    def test_many_records_and_many_maps(self):
        for turning in [False, True]:
            asks = {name: counting(value, 4, 4) for value, name in enumerate("abcd")}
            setting = Setting(4, ALL_MAPS[4], asks, turning)
            self.assertEqual(len(self.in_time(least_rows, setting)), 256)
            self.assertEqual(len(self.in_time(least_records, setting)[1]), 256)
            self.assertEqual(self.in_time(same_values, setting), [[0], [1], [2], [3]])
            asks = {name: counting(value, 6, 3) for value, name in enumerate("abc")}
            setting = Setting(3, ALL_MAPS[3], asks, turning)
            self.assertEqual(len(self.in_time(least_rows, setting)), 216)
            self.assertEqual(len(self.in_time(least_records, setting)[1]), 216)

    def test_many_records_of_one_value(self):
        asks = {"a": cycle(30), "b": cycle(20), "c": cycle(25), "d": cycle(12)}
        setting = Setting(1, {name: (0,) for name in "abcd"}, asks, True)
        self.assertEqual(len(self.in_time(least_records, setting)[1]), 300)
        self.assertEqual(self.in_time(record_of, setting, (0,) * 299), 299)


if __name__ == "__main__":
    unittest.main()
