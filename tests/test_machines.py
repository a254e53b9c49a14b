"""Machines: what they are, their answers, the least ones, and those made of others."""

import random
import unittest

from lazytags.errors import InvalidMachine, InvalidMap, InvalidRow, InvalidSize, TooMany
from lazytags.machines import answer, check_machine, least_machine, machines_parted, mapped, turned
from lazytags.settings import Setting
from tests.makers import FIRST, LAST, ODD, WRONG_THINGS, cycle, plain_answer, plain_least, random_machine, rows_up_to
from tests.makers import tailed_cycle

# Found by search: turned round, the least machine of the first has 300 states, that of the others 301.
JUST_300 = (0, ((4, 3, 1, 2), (5, 1, 4, 2), (4, 5, 2, 2), (5, 3, 5, 5), (0, 2, 4, 1), (3, 0, 4, 4)), (1, 0, 0, 2, 1, 1))
ALSO_300 = (0, ((5, 1, 1), (0, 5, 3), (2, 3, 3), (2, 5, 2), (4, 1, 5), (1, 2, 5)), (3, 1, 5, 2, 5, 4))
JUST_301 = (2, ((0, 1, 2, 2), (3, 2, 1, 2), (3, 4, 5, 0), (5, 1, 2, 1), (3, 0, 3, 1), (1, 5, 0, 3)), (2, 1, 1, 0, 0, 0))
ALSO_301 = (0, ((2, 5, 1), (5, 0, 1), (4, 0, 1), (1, 2, 0), (1, 0, 3), (0, 4, 1)), (3, 2, 0, 4, 1, 3))


class TestCheckMachine(unittest.TestCase):
    def test_machines(self):
        self.assertIsNone(check_machine(ODD, 2))
        self.assertIsNone(check_machine((0, ((0,),), (99,)), 1))
        self.assertIsNone(check_machine((2, ((0, 1, 2),) * 3, (0, 0, 99)), 3))
        self.assertIsNone(check_machine(thing=(0, ((0, 0, 0, 0),), (0,)), size=4))

    def test_form(self):
        wrong = [
            *WRONG_THINGS, (), (0, ((0, 0),)), (0, ((0, 0),), (0,), 0), [0, ((0, 0),), (0,)], (0, [(0, 0)], (0,)),
            (0, ((0, 0),), [0]), (0, (), ()), (0, (), (0,)), (0, ((0, 0),), ()), (0, None, (0,)), (0, "ab", (0,)),
        ]
        for thing in wrong:
            self.assertEqual(check_machine(thing, 2), ("form",), thing)

    def test_steps(self):
        for line in [(0,), (0, 0, 0), [0, 0], (0, 2), (-1, 0), (True, 0), (0, False), (0, "0"), (0, None), 0, None, ()]:
            self.assertEqual(check_machine((0, ((0, 1), line), (0, 1)), 2), ("steps", 1), line)

    def test_smallest_number_of_steps_counts(self):
        self.assertEqual(check_machine((0, ((0, 0), (0,), (9, 9), ()), (0, 0, 0, 0)), 2), ("steps", 1))
        self.assertEqual(check_machine(ODD, 1), ("steps", 0))
        self.assertEqual(check_machine(ODD, 3), ("steps", 0))

    def test_answers(self):
        for answers in [(0,), (0, 1, 2), (0, -1), (100, 0), (True, 0), (0, False), (0, None), (0, "1"), (0, (1,))]:
            self.assertEqual(check_machine((0, ((0, 1), (1, 0)), answers), 2), ("answers",), answers)

    def test_start(self):
        for start in [2, -1, True, False, None, "0", (0,), [], {}, Setting(2), 10 ** 99]:
            self.assertEqual(check_machine((start, ((0, 1), (1, 0)), (0, 1)), 2), ("start",), start)

    def test_first_problem_counts(self):
        self.assertEqual(check_machine((9, ((0, 5),), ()), 2), ("form",))
        self.assertEqual(check_machine((9, ((0, 5),), (100,)), 2), ("steps", 0))
        self.assertEqual(check_machine((9, ((0, 0),), (100,)), 2), ("answers",))

    def test_invalid_size_is_first(self):
        for size in [0, 5, -1, True, False, None, "2", (2,), [], 10 ** 99, Setting(2)]:
            for thing in [ODD, None]:
                with self.assertRaises(InvalidSize) as caught:
                    check_machine(thing, size)
                self.assertEqual(caught.exception.size, size)
                self.assertIs(type(caught.exception.size), type(size))


class TestAnswer(unittest.TestCase):
    def test_answers(self):
        self.assertEqual([answer(ODD, row) for row in [(), (0,), (1,), (1, 1), (1, 0, 1, 1)]], [0, 0, 1, 0, 1])
        self.assertEqual(answer(machine=LAST, row=()), 9)
        self.assertEqual(answer((1, ((0,), (1,)), (3, 99)), ()), 99)

    def test_long_rows(self):
        self.assertEqual(answer(ODD, (1, 0, 1) * 20), 0)
        self.assertEqual(answer(ODD, (1,) * 1001), 1)
        self.assertEqual(answer(LAST, (1,) * 59 + (0,)), 0)
        self.assertEqual(answer(cycle(30), (0,) * 60), 0)

    def test_invalid_machine_is_first(self):
        wrong = [*WRONG_THINGS, (0, ((0,) * 5,), (0,)), (0, ((),), (0,)), (2, ODD[1], ODD[2]), (0, ((0, 0), (0,)), (0, 0))]
        for thing in wrong:
            for row in [(), None]:
                with self.assertRaises(InvalidMachine) as caught:
                    answer(thing, row)
                self.assertEqual(caught.exception.thing, thing)

    def test_invalid_row(self):
        for row in [None, 0, "0", [], [0, 1], (2,), (0, -1), (True,), (0, False), (None,), ((0,),), {}, Setting(2)]:
            with self.assertRaises(InvalidRow) as caught:
                answer(ODD, row)
            self.assertEqual(caught.exception.thing, row)
        with self.assertRaises(InvalidRow):
            answer((0, ((0,),), (0,)), (1,))


class TestLeastMachine(unittest.TestCase):
    def test_states_that_are_not_reached(self):
        self.assertEqual(least_machine((1, ((0, 0), (1, 1)), (5, 6))), (0, ((0, 0),), (6,)))

    def test_states_that_are_alike(self):
        machine = (0, ((1, 2), (3, 3), (3, 0), (1, 2)), (1, 2, 2, 1))
        self.assertEqual(least_machine(machine), (0, ((1, 1), (0, 0)), (1, 2)))
        self.assertEqual(least_machine((0, ((1,), (2,), (0,)), (7, 7, 7))), (0, ((0,),), (7,)))
        # Equal answers, but told apart by what follows.
        self.assertEqual(least_machine((0, ((1,), (2,), (2,)), (0, 0, 1))), (0, ((1,), (2,), (2,)), (0, 0, 1)))

    def test_states_in_another_order(self):
        self.assertEqual(least_machine((2, ((1, 1), (1, 1), (1, 0)), (4, 5, 6))), (0, ((1, 2), (1, 1), (1, 1)), (6, 5, 4)))
        # The order is that of the least rows: (1,) stands before (0, 0).
        self.assertEqual(
            least_machine((0, ((1, 3), (2, 2), (2, 2), (3, 3)), (0, 1, 2, 3))),
            (0, ((1, 2), (3, 3), (2, 2), (3, 3)), (0, 1, 3, 2)),
        )

    def test_least_ones_stay(self):
        for machine in [ODD, LAST, FIRST, cycle(30), cycle(6, 4), tailed_cycle(10, 20)]:
            self.assertEqual(least_machine(machine), machine)

    def test_against_plain_way(self):
        rng = random.Random(1)
        for _ in range(300):
            size = rng.randint(1, 3)
            machine = random_machine(rng, rng.randint(1, 5), size, rng.randint(1, 3))
            self.assertEqual(least_machine(machine), plain_least(machine), machine)

    def test_invalid_machine(self):
        for thing in WRONG_THINGS:
            with self.assertRaises(InvalidMachine) as caught:
                least_machine(thing)
            self.assertEqual(caught.exception.thing, thing)

    def test_by_name(self):
        self.assertEqual(least_machine(machine=ODD), ODD)
        self.assertEqual(turned(machine=ODD), ODD)


class TestMachinesParted(unittest.TestCase):
    def test_alike(self):
        self.assertIsNone(machines_parted(ODD, ODD))
        self.assertIsNone(machines_parted(ODD, (1, ((0, 1), (1, 0)), (1, 0))))
        self.assertIsNone(machines_parted(one=ODD, other=(1, ((0, 1), (1, 0), (2, 2)), (1, 0, 5))))

    def test_parted_by_no_values(self):
        self.assertEqual(machines_parted(ODD, (1, ODD[1], ODD[2])), ())

    def test_least_row_of_several(self):
        # They differ on (1,) and on (0, 0); the shorter row is less.
        one = (0, ((1, 2), (1, 1), (2, 2)), (0, 0, 0))
        other = (0, ((1, 2), (3, 1), (2, 2), (3, 3)), (0, 0, 1, 1))
        self.assertEqual(machines_parted(one, other), (1,))
        self.assertEqual(machines_parted(LAST, FIRST), (0, 1))

    def test_long_row(self):
        # The longest that two machines of 29 and 30 states can need: one comes back to the answer 1, the other does not.
        one = (0, cycle(29)[1], (0,) * 28 + (1,))
        other = (0, tailed_cycle(29, 1)[1], (0,) * 28 + (1, 0))
        self.assertEqual(machines_parted(one, other), (0,) * 57)
        self.assertEqual(machines_parted(other, one), (0,) * 57)
        # Only ones lead on, and only the last state tells them apart.
        counts = tuple((k, min(k + 1, 29)) for k in range(30))
        one = (0, counts, (0,) * 30)
        other = (0, counts, (0,) * 29 + (1,))
        self.assertEqual(machines_parted(one, other), (1,) * 29)
        self.assertEqual(machines_parted(other, one), (1,) * 29)

    def test_the_other_way_about(self):
        rng = random.Random(2)
        parted = 0
        for _ in range(400):
            size = rng.randint(1, 3)
            one = random_machine(rng, rng.randint(1, 4), size, 2)
            other = random_machine(rng, rng.randint(1, 4), size, 2)
            row = machines_parted(one, other)
            self.assertEqual(machines_parted(other, one), row)
            rows = rows_up_to(size, 6)
            told = [each for each in rows if plain_answer(one, each) != plain_answer(other, each)]
            self.assertEqual(row, told[0] if told else None)
            self.assertEqual(row is None, least_machine(one) == least_machine(other))
            parted += row is not None
        self.assertTrue(0 < parted < 400)

    def test_errors_and_their_order(self):
        for thing in WRONG_THINGS:
            with self.assertRaises(InvalidMachine) as caught:
                machines_parted(thing, None)
            self.assertEqual(caught.exception.thing, thing)
            with self.assertRaises(InvalidMachine) as caught:
                machines_parted(ODD, thing)
            self.assertEqual(caught.exception.thing, thing)

    def test_another_size(self):
        other = (0, ((0, 0, 0),), (0,))
        with self.assertRaises(InvalidMachine) as caught:
            machines_parted(ODD, other)
        self.assertEqual(caught.exception.thing, other)


class TestMapped(unittest.TestCase):
    def test_all_sizes(self):
        three = (0, ((0, 1, 2), (0, 1, 2), (0, 1, 2)), (0, 1, 2))
        self.assertEqual(mapped(three, (2,)), (0, ((1,), (1,)), (0, 2)))
        self.assertEqual(mapped(three, (2, 2)), (0, ((1, 1), (1, 1)), (0, 2)))
        self.assertEqual(mapped(three, (0, 0, 0, 0)), (0, ((0, 0, 0, 0),), (0,)))
        self.assertEqual(mapped(machine=three, mapping=(0, 2, 1, 1)), (0, ((0, 1, 2, 2),) * 3, (0, 2, 1)))

    def test_against_plain_way(self):
        rng = random.Random(3)
        for _ in range(150):
            size, new_size = rng.randint(1, 4), rng.randint(1, 4)
            machine = random_machine(rng, rng.randint(1, 4), size, 3)
            mapping = tuple(rng.randrange(size) for _ in range(new_size))
            made = mapped(machine, mapping)
            self.assertEqual(check_machine(made, new_size), None)
            self.assertEqual(made, least_machine(made))
            for row in rows_up_to(new_size, 4):
                self.assertEqual(plain_answer(made, row), plain_answer(machine, tuple(mapping[v] for v in row)))

    def test_errors_and_their_order(self):
        for thing in WRONG_THINGS:
            with self.assertRaises(InvalidMachine) as caught:
                mapped(thing, None)
            self.assertEqual(caught.exception.thing, thing)
        wrong = [None, (), (0,) * 5, (2,), (-1, 0), (0, True), [0, 1], 0, "01", {}, (0, None), Setting(2)]
        for mapping in wrong:
            with self.assertRaises(InvalidMap) as caught:
                mapped(ODD, mapping)
            self.assertEqual(caught.exception.thing, mapping)


class TestTurned(unittest.TestCase):
    def test_by_hand(self):
        self.assertEqual(turned(LAST), FIRST)
        self.assertEqual(turned(FIRST), LAST)
        self.assertEqual(turned(ODD), ODD)
        # Is the second value a one? Turned round: is the one before the last a one? So the last two are kept.
        second = (0, ((1, 1), (2, 3), (2, 2), (3, 3)), (0, 0, 0, 1))
        self.assertEqual(turned(second), (0, ((0, 1), (2, 3), (0, 1), (2, 3)), (0, 0, 1, 1)))

    def test_states_that_are_not_reached_do_not_matter(self):
        self.assertEqual(turned((0, ((0, 0), (2, 2), (1, 0)), (4, 5, 6))), (0, ((0, 0),), (4,)))

    def test_against_plain_way(self):
        rng = random.Random(4)
        for _ in range(200):
            size = rng.randint(1, 3)
            machine = random_machine(rng, rng.randint(1, 4), size, rng.randint(1, 3))
            made = turned(machine)
            self.assertEqual(made, least_machine(made))
            self.assertEqual(turned(made), least_machine(machine))
            for row in rows_up_to(size, 5):
                self.assertEqual(plain_answer(made, row), plain_answer(machine, row[::-1]))

    def test_300_states(self):
        for machine in [JUST_300, ALSO_300]:
            made = turned(machine)
            self.assertEqual(len(made[1]), 300)
            self.assertEqual(made, least_machine(made))
            self.assertEqual(turned(made), least_machine(machine))
            self.assertIsNone(machines_parted(turned(turned(made)), made))

    def test_too_many(self):
        for machine in [JUST_301, ALSO_301]:
            self.assertRaises(TooMany, turned, machine)
        # Is the ninth value a one? Turned round, the last nine have to be kept.
        ninth = (0, tuple((k + 1, k + 1) for k in range(8)) + ((9, 10), (9, 9), (10, 10)), (0,) * 10 + (1,))
        self.assertRaises(TooMany, turned, ninth)

    def test_invalid_machine(self):
        for thing in WRONG_THINGS:
            with self.assertRaises(InvalidMachine) as caught:
                turned(thing)
            self.assertEqual(caught.exception.thing, thing)


if __name__ == "__main__":
    unittest.main()
