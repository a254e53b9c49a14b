"""Plans: what they do to rows, their forms, plans that are compared, and plans that are made."""

import itertools
import random
import unittest

from lazytags.errors import InvalidForm, InvalidLength, InvalidPlan, InvalidRow, NotASetting, NotMade, TooMany
from lazytags.plans import form_of, idle, plan_of, plans_parted, plans_told, run, swaps
from lazytags.records import least_rows
from lazytags.settings import Setting
from tests.makers import LAST, NEST, ODD, WRONG_THINGS, PlainRecords, cycle, plain_effects, random_setting
from tests.makers import rows_of_length, tailed_cycle
from tests.reckoning import first_difference, plain_run, random_plan

FLIP = {"flip": (1, 0)}
ODDS = Setting(2, FLIP, {"odd": ODD}, True)
FULL = Setting(3, {"up": (1, 2, 0), "low": (0, 0, 1), "two": (2, 2, 2)}, {"last": (0, ((0, 1, 2),) * 3, (0, 1, 2))}, True)
WRONG_LENGTHS = [-1, 61, True, False, None, "3", (3,), [], {}, 10 ** 99, Setting(3)]
# Wrong as a step for the length 3 in ODDS.
WRONG_STEPS = [
    None, 0, "flip", (), [], {}, ("flip",), ("flip", 0), ("flip", 0, 3, 3), ["flip", 0, 3], ("flop", 0, 3), (None, 0, 3),
    (["flip"], 0, 3), ("odd", 0, 3), (Setting(2), 0, 3), ("flip", -1, 3), ("flip", 0, 4), ("flip", 2, 1), ("flip", 4, 4),
    ("flip", True, 3), ("flip", 0, True), ("flip", None, 3), ("flip", 0, None), ("flip", "0", 3), ("turn", 3, 2),
    ("flip", 0, [3]), ("flip", 0, 10 ** 99), NEST, Setting(2),
]
NO_PLANS = [None, 0, True, "flip", "", {}, {"flip": 1}, Setting(2)]


class TestRun(unittest.TestCase):
    def test_each_kind_of_step(self):
        for plan, row, after in [
            ([], (0, 1, 2), (0, 1, 2)),
            ([("up", 0, 3)], (0, 1, 2), (1, 2, 0)),
            ([("up", 1, 2)], (0, 1, 2), (0, 2, 2)),
            ([("two", 0, 2)], (0, 1, 1), (2, 2, 1)),
            ([("turn", 0, 3)], (0, 1, 2), (2, 1, 0)),
            ([("turn", 1, 3)], (0, 1, 2), (0, 2, 1)),
            ([("turn", 0, 2), ("low", 1, 3)], (1, 0, 2), (0, 0, 1)),
            ([("low", 1, 3), ("turn", 0, 2)], (1, 0, 2), (0, 1, 1)),
            ([("up", 0, 0), ("turn", 3, 3), ("two", 1, 1)], (0, 1, 2), (0, 1, 2)),
            ([("turn", 1, 2)], (0, 1, 2), (0, 1, 2)),
            ([("up", 0, 0)], (), ()),
        ]:
            self.assertEqual(run(FULL, plan, row), after)
            self.assertEqual(run(setting=FULL, plan=tuple(plan), row=row), after)

    def test_long_rows_and_plans(self):
        rng = random.Random(41)
        for length in [60, 200, 299]:
            row = tuple(rng.randrange(3) for _ in range(length))
            plan = [("turn", k, length - k) if k % 2 else ("up", k, length) for k in range(30)] + [("low", 0, length)] * 10
            self.assertEqual(run(FULL, plan, row), plain_run(FULL, plan, row))

    def test_random_plans(self):
        rng = random.Random(42)
        for _ in range(200):
            setting = random_setting(rng, rng.randint(1, 4), 1)
            length = rng.randint(0, 8)
            plan = random_plan(rng, setting.deeds, length, 9)
            row = tuple(rng.randrange(setting.size) for _ in range(length))
            self.assertEqual(run(setting, plan, row), plain_run(setting, plan, row))

    def test_errors_in_their_order(self):
        for row in [None, [], [0], (True,), (2,), (-1,), "0", 0, {}, Setting(1)]:
            with self.assertRaises(InvalidRow) as caught:
                run(ODDS, None, row)
            self.assertEqual(caught.exception.thing, row)
        for plan in NO_PLANS:
            with self.assertRaises(InvalidPlan) as caught:
                run(ODDS, plan, (0, 1, 1))
            self.assertIsNone(caught.exception.place)
        for step in WRONG_STEPS:
            for plan in [[("flip", 0, 3), ("turn", 3, 3), step, None], (("flip", 1, 1), ("flip", 2, 3), step)]:
                with self.assertRaises(InvalidPlan) as caught:
                    run(ODDS, plan, (0, 1, 1))
                self.assertEqual(caught.exception.place, 2)
        # The length is that of the row.
        self.assertRaises(InvalidPlan, run, ODDS, [("flip", 0, 3)], (0, 1))
        self.assertRaises(InvalidPlan, run, Setting(2, FLIP), [("turn", 0, 0)], ())


class TestForms(unittest.TestCase):
    def test_each_kind_of_step(self):
        same, up, two = (0, 1, 2), (1, 2, 0), (2, 2, 2)
        for plan, form in [
            ([], ((0, same), (1, same), (2, same))),
            ([("up", 1, 3)], ((0, same), (1, up), (2, up))),
            ([("turn", 0, 3)], ((2, same), (1, same), (0, same))),
            ([("turn", 1, 3), ("up", 0, 2)], ((0, up), (2, up), (1, same))),
            ([("up", 0, 2), ("turn", 1, 3)], ((0, up), (2, same), (1, up))),
            ([("two", 1, 2)], ((0, same), (None, two), (2, same))),
            ([("two", 1, 2), ("up", 0, 3), ("turn", 0, 2)], ((None, (0, 0, 0)), (0, up), (2, up))),
            ([("up", 2, 3), ("low", 2, 3)], ((0, same), (1, same), (2, (0, 1, 0)))),
            ([("low", 2, 3), ("up", 2, 3)], ((0, same), (1, same), (2, (1, 1, 2)))),
            ([("up", 1, 1), ("turn", 0, 0), ("two", 3, 3), ("turn", 2, 3)], ((0, same), (1, same), (2, same))),
        ]:
            self.assertEqual(form_of(FULL, plan, 3), form)
            self.assertEqual(form_of(length=3, plan=tuple(plan), setting=FULL), form)
        self.assertEqual(form_of(FULL, [("turn", 0, 0)], 0), ())

    def test_maps_that_become_constant_one_after_the_other(self):
        setting = Setting(3, {"low": (0, 0, 1)})
        self.assertEqual(form_of(setting, [("low", 0, 2), ("low", 1, 2)], 2), ((0, (0, 0, 1)), (None, (0, 0, 0))))

    def test_one_value(self):
        # With one value every map is constant.
        setting = Setting(1, {"stay": (0,)}, None, True)
        self.assertEqual(form_of(setting, [], 2), ((None, (0,)), (None, (0,))))
        self.assertEqual(form_of(setting, [("stay", 0, 1), ("turn", 0, 2)], 2), ((None, (0,)), (None, (0,))))

    def test_forms_tell_what_plans_do(self):
        rng = random.Random(43)
        for _ in range(150):
            setting = random_setting(rng, rng.randint(1, 3), 1)
            length = rng.randint(0, 4)
            plan = random_plan(rng, setting.deeds, length, 6)
            form = form_of(setting, plan, length)
            self.assertEqual(len(form), length)
            for source, mapping in form:
                self.assertEqual(source is None, len(set(mapping)) == 1)
            for row in rows_of_length(setting.size, length):
                told = tuple(mapping[0 if source is None else row[source]] for source, mapping in form)
                self.assertEqual(told, plain_run(setting, plan, row))

    def test_length_60(self):
        plan = [("turn", k, 60) for k in range(40)]
        row = tuple(k % 3 for k in range(60))
        form = form_of(FULL, plan, 60)
        self.assertEqual(tuple(row[source] for source, _ in form), plain_run(FULL, plan, row))
        self.assertEqual(sorted(source for source, _ in form), list(range(60)))


class TestPlansParted(unittest.TestCase):
    def test_by_hand(self):
        self.assertIsNone(plans_parted(FULL, [], (), 0))
        self.assertIsNone(plans_parted(FULL, [("up", 0, 2), ("up", 1, 2)], (("up", 1, 2), ("up", 0, 2)), 2))
        self.assertEqual(plans_parted(FULL, [("turn", 0, 2)], [], 2), (0, 1))
        self.assertEqual(plans_parted(FULL, [("turn", 0, 3)], [], 3), (0, 0, 1))
        self.assertEqual(plans_parted(FULL, [("turn", 0, 2)], [], 3), (0, 1, 0))
        self.assertEqual(plans_parted(FULL, [("low", 0, 3)], [], 3), (0, 0, 1))
        self.assertEqual(plans_parted(FULL, [("low", 0, 3)], [("two", 0, 3)], 3), (0, 0, 0))
        # The maps differ for the value 2 alone.
        setting = Setting(3, {"a": (0, 1, 1)}, None, True)
        self.assertEqual(plans_parted(setting=setting, plan=[("a", 1, 2)], other=[], length=3), (0, 2, 0))
        # Where the first place is the same, a later one that reads it from afar may tell.
        self.assertEqual(plans_parted(setting, [("turn", 1, 3)], [("turn", 1, 3), ("a", 2, 3)], 3), (0, 2, 0))
        setting = Setting(2, {"one": (1, 1), "flip": (1, 0)})
        self.assertEqual(plans_parted(setting, [("one", 0, 1)], [], 1), (0,))
        self.assertEqual(plans_parted(setting, [("one", 0, 1)], [("flip", 0, 1)], 1), (1,))
        self.assertIsNone(plans_parted(setting, [("one", 0, 1)], [("flip", 0, 1), ("one", 0, 1)], 1))

    def test_against_all_rows(self):
        rng = random.Random(44)
        told = {True: 0, False: 0}
        for _ in range(400):
            setting = random_setting(rng, rng.randint(2, 3), 1)
            length = rng.randint(1, 4)
            plan = random_plan(rng, setting.deeds, length, 4)
            other = rng.sample(plan, len(plan)) if rng.random() < 0.5 else random_plan(rng, setting.deeds, length, 4)
            given = plans_parted(setting, plan, other, length)
            self.assertEqual(given, first_difference(setting, plan, other, length))
            self.assertEqual(given is None, form_of(setting, plan, length) == form_of(setting, other, length))
            told[given is None] += 1
        self.assertTrue(min(told.values()) > 50)

    def test_length_60(self):
        zeros = (0,) * 60
        self.assertIsNone(plans_parted(FULL, [("turn", 0, 60)] * 40, [], 60))
        self.assertEqual(plans_parted(FULL, [("turn", 0, 60)], [], 60), (0,) * 59 + (1,))
        self.assertEqual(plans_parted(FULL, [("turn", 0, 2)], [], 60), (0, 1) + (0,) * 58)
        self.assertEqual(plans_parted(FULL, [("low", 7, 8)], [], 60), (0,) * 7 + (1,) + (0,) * 52)
        self.assertEqual(plans_parted(FULL, [("low", 7, 8), ("low", 31, 60)], [], 60), (0,) * 59 + (1,))
        self.assertEqual(plans_parted(FULL, [("up", 59, 60)], [], 60), zeros)
        setting = Setting(4, {"a": (0, 1, 2, 2), "b": (0, 1, 1, 1)}, None, True)
        self.assertEqual(plans_parted(setting, [("a", 20, 21)], [], 60), (0,) * 20 + (3,) + (0,) * 39)
        # The same with b on all other places, before the turn and behind it.
        plan = [("b", 0, 20), ("b", 21, 60), ("turn", 0, 60)]
        other = [("a", 20, 21), ("turn", 0, 60), ("b", 0, 39), ("b", 40, 60)]
        self.assertEqual(plans_parted(setting, plan, other, 60), (0,) * 20 + (3,) + (0,) * 39)
        self.assertIsNone(plans_parted(setting, plan, [("turn", 0, 60), ("b", 0, 39), ("b", 40, 60)], 60))

    def test_length_60_against_shorter_rows(self):
        # Only the places of a few values matter: what happens there happens in a short row, too.
        rng = random.Random(45)
        for _ in range(60):
            places = sorted(rng.sample(range(60), 4))
            plans, long_plans = [], []
            for _ in range(2):
                deeds = rng.choices(["up", "low", "two"], k=3)
                plan = [(deed, at, at + 1) for deed, at in zip(deeds, rng.choices(range(4), k=3))]
                plans.append(plan)
                long_plans.append([(deed, places[at], places[at] + 1) for deed, at, _ in plan])
            told = plans_parted(FULL, *long_plans, 60)
            short = first_difference(FULL, *plans, 4)
            self.assertEqual(told is None, short is None)
            if told is not None:
                self.assertEqual(tuple(told[place] for place in places), short)
                self.assertEqual(sum(told), sum(short))


class TestIdleAndSwaps(unittest.TestCase):
    def test_idle(self):
        for plan, told in [
            ([], []),
            ([("up", 0, 2)], []),
            ([("up", 0, 0), ("turn", 1, 2), ("up", 1, 2)], [0, 1]),
            # Each of both alone can be left out, not both together.
            ([("two", 0, 1), ("two", 0, 1)], [0, 1]),
            ([("up", 0, 1), ("two", 0, 1)], [0]),
            ([("two", 0, 1), ("low", 0, 1)], []),
            ([("turn", 0, 2), ("two", 0, 2)], [0]),
            ([("up", 0, 2), ("turn", 0, 2), ("two", 0, 1), ("two", 1, 2)], [0, 1]),
            ([("turn", 0, 2), ("turn", 0, 2)], []),
        ]:
            self.assertEqual(idle(FULL, plan, 2), told)
            self.assertEqual(idle(setting=FULL, plan=tuple(plan), length=2), told)
        self.assertEqual(idle(Setting(1, {"stay": (0,)}, None, True), [("stay", 0, 2), ("turn", 0, 2)], 2), [0, 1])
        self.assertEqual(idle(FULL, [("up", 0, 0)] * 40, 60), list(range(40)))

    def test_swaps(self):
        for plan, told in [
            ([], []),
            ([("up", 0, 2)], []),
            ([("up", 0, 1), ("low", 1, 2)], [0]),
            ([("up", 0, 2), ("low", 1, 2)], []),
            ([("up", 0, 2), ("up", 1, 2), ("turn", 0, 2)], [0]),
            ([("up", 0, 2), ("turn", 0, 2)], [0]),
            ([("up", 0, 1), ("turn", 0, 2), ("up", 0, 0)], [1]),
            ([("up", 0, 1), ("low", 0, 1), ("two", 0, 1)], [0]),
            ([("two", 0, 1), ("low", 0, 1), ("two", 0, 1)], [0]),
        ]:
            self.assertEqual(swaps(FULL, plan, 2), told)
            self.assertEqual(swaps(length=2, setting=FULL, plan=tuple(plan)), told)
        self.assertEqual(swaps(FULL, [("up", 0, 60)] * 40, 60), list(range(39)))

    def test_against_all_rows(self):
        rng = random.Random(46)
        found = [0, 0]
        for _ in range(120):
            setting = random_setting(rng, rng.randint(1, 3), 1)
            length = rng.randint(0, 3)
            plan = random_plan(rng, setting.deeds, length, 6)
            steps = range(len(plan))
            idle_ones = [k for k in steps if first_difference(setting, plan, plan[:k] + plan[k + 1:], length) is None]
            exchanged = [plan[:k] + [plan[k + 1], plan[k]] + plan[k + 2:] for k in steps[:-1]]
            swapped = [k for k, other in enumerate(exchanged) if first_difference(setting, plan, other, length) is None]
            self.assertEqual(idle(setting, plan, length), idle_ones)
            self.assertEqual(swaps(setting, plan, length), swapped)
            found = [found[0] + len(idle_ones), found[1] + len(swapped)]
        self.assertTrue(min(found) > 50)


class TestPlansTold(unittest.TestCase):
    def test_by_hand(self):
        self.assertIsNone(plans_told(ODDS, [("flip", 0, 2)], [], 2))
        self.assertEqual(plans_told(ODDS, [("flip", 0, 2)], [("flip", 1, 2)], 2), (0, 0))
        self.assertIsNone(plans_told(setting=ODDS, plan=(), other=[("flip", 0, 60)], length=60))
        last = Setting(2, FLIP, {"last": LAST})
        # Without turns only the last value matters.
        self.assertIsNone(plans_told(last, [("flip", 0, 59)], [], 60))
        self.assertEqual(plans_told(last, [("flip", 59, 60)], [], 60), (0,) * 60)
        setting = Setting(3, {"a": (0, 1, 1)}, {"two": (0, ((0, 0, 1), (1, 1, 1)), (0, 1))})
        self.assertEqual(plans_told(setting, [("a", 0, 60)], [], 60), (0,) * 59 + (2,))
        self.assertEqual(plans_told(setting, [("a", 0, 59)], [], 60), (0,) * 58 + (2, 0))
        self.assertEqual(plans_told(setting, [("a", 0, 3)], [], 60), (0, 0, 2) + (0,) * 57)
        self.assertIsNone(plans_told(Setting(2, FLIP), [("flip", 0, 1)], [], 1))
        self.assertIsNone(plans_told(ODDS, [], [], 0))

    def test_against_all_rows(self):
        rng = random.Random(47)
        told = {True: 0, False: 0}
        tried = 0
        while tried < 60:
            setting = random_setting(rng, rng.randint(1, 3), 3)
            plain = PlainRecords(setting, 20)
            if len(plain.rows) > 20 or len(plain.rows) < 3:
                continue
            tried += 1
            for _ in range(6):
                length = rng.randint(0, 4)
                plan, other = [random_plan(rng, sorted(setting.maps), length, 4) for _ in range(2)]
                given = plans_told(setting, plan, other, length)
                self.assertEqual(given, first_difference(setting, plan, other, length, plain.place))
                told[given is None] += 1
        self.assertTrue(min(told.values()) > 50)

    def test_40_records_and_more(self):
        setting = Setting(1, {"stay": (0,)}, {"a": cycle(8), "b": cycle(5)}, True)
        self.assertEqual(len(least_rows(setting)), 40)
        self.assertIsNone(plans_told(setting, [("stay", 0, 60)], [], 60))
        setting = Setting(1, {"stay": (0,)}, {"a": tailed_cycle(1, 8), "b": cycle(5)}, True)
        self.assertEqual(len(least_rows(setting)), 41)
        self.assertRaises(TooMany, plans_told, setting, [], [], 0)
        self.assertRaises(TooMany, plans_told, setting, [("stay", 0, 60)], [], 60)
        many = Setting(1, {"stay": (0,)}, {"a": cycle(30), "b": cycle(29)})
        self.assertRaises(TooMany, plans_told, many, (), (), 1)
        # The other functions do not ask for the records.
        self.assertIsNone(plans_parted(many, [("stay", 0, 1)], [], 1))
        self.assertEqual(form_of(many, [], 1), ((None, (0,)),))

    def test_a_turn_is_no_step_here(self):
        large = Setting(1, {"stay": (0,)}, {"a": cycle(30), "b": cycle(29)}, True)
        for setting, deed in [(ODDS, "flip"), (large, "stay")]:
            for plan, place in [
                ([("turn", 0, 2)], 0), ([(deed, 0, 1), ("turn", 0, 0), None], 1), ([("turn", 0, 9)], 0),
                (((deed, 0, 2), (deed, 0, 9), ("turn", 0, 2)), 1),
            ]:
                with self.assertRaises(InvalidPlan) as caught:
                    plans_told(setting, plan, None, 2)
                self.assertEqual(caught.exception.place, place)
                with self.assertRaises(InvalidPlan) as caught:
                    plans_told(setting, [(deed, 0, 1)], plan, 2)
                self.assertEqual(caught.exception.place, place)
                with self.assertRaises(InvalidPlan) as caught:
                    plans_told(setting, [(deed, 0, 1), (deed, 0, 1), ("turn", 0, 1)], plan, 2)
                self.assertEqual(caught.exception.place, 2)


class TestPlanOf(unittest.TestCase):
    def assert_made(self, setting, form):
        plan = plan_of(setting, form)
        self.assertIsInstance(plan, (tuple, list))
        self.assertEqual(form_of(setting, plan, len(form)), form)
        self.assertIsNone(plans_parted(setting, plan, plan, len(form)))
        rng = random.Random(48)
        for _ in range(3):
            row = tuple(rng.randrange(setting.size) for _ in form)
            told = tuple(mapping[0 if source is None else row[source]] for source, mapping in form)
            self.assertEqual(run(setting, plan, row), told)
            self.assertEqual(plain_run(setting, plan, row), told)

    def test_by_hand(self):
        same, up, two = (0, 1, 2), (1, 2, 0), (2, 2, 2)
        self.assertEqual(len(plan_of(FULL, ())), 0)
        for form in [
            (), ((0, same),), ((0, up),), ((None, two),), ((1, same), (0, same)), ((2, up), (0, same), (1, (0, 0, 1))),
            ((None, two), (0, up)), ((2, same), (None, (0, 0, 0)), (None, two)), ((None, (1, 1, 1)),) * 4,
            ((1, same), (2, same), (None, two), (3, same)), ((3, same), (None, two), (None, two), (0, same)),
        ]:
            self.assert_made(FULL, form)
        self.assert_made(setting=Setting(3, FULL.maps), form=((0, up), (None, two), (2, same), (None, (0, 0, 0))))

    def test_forms_of_plans(self):
        rng = random.Random(49)
        for _ in range(200):
            setting = random_setting(rng, rng.randint(1, 4), 1)
            length = rng.choice([0, 1, 2, 3, 5, 9])
            self.assert_made(setting, form_of(setting, random_plan(rng, setting.deeds, length, 12), length))

    def test_all_forms_of_three_places(self):
        setting = Setting(2, {"flip": (1, 0), "one": (1, 1)}, None, True)
        made = 0
        for sources in itertools.product([None, 0, 1, 2], repeat=3):
            numbers = [source for source in sources if source is not None]
            for turned in itertools.product([0, 1], repeat=3):
                maps = [[(k, k), ((0, 1), (1, 0))[k]][source is not None] for source, k in zip(sources, turned)]
                form = tuple(zip(sources, maps))
                if len(set(numbers)) == len(numbers):
                    self.assert_made(setting, form)
                    made += 1
                else:
                    self.assertRaises(InvalidForm, plan_of, setting, form)
        self.assertEqual(made, 34 * 8)

    def test_60_places(self):
        rng = random.Random(50)
        # The longest words that any maps of four values need have 17 deeds.
        setting = Setting(4, {"a": (0, 0, 1, 2), "b": (1, 3, 0, 2)}, None, True)
        maps = [mapping for mapping, around in plain_effects(setting) if not around]
        self.assertEqual(len(maps), 176)
        for _ in range(4):
            chosen = [rng.choice(maps) for _ in range(60)]
            sources = rng.sample(range(60), 60)
            form = tuple((None if len(set(mapping)) == 1 else source, mapping) for source, mapping in zip(sources, chosen))
            self.assert_made(setting, form)
        still = Setting(4, setting.maps)
        form = tuple((None if len(set(mapping)) == 1 else k, mapping) for k, mapping in enumerate(rng.sample(maps, 60)))
        self.assert_made(still, form)

    def test_one_value(self):
        for turning in [False, True]:
            setting = Setting(1, {"stay": (0,)}, None, turning)
            self.assert_made(setting, ((None, (0,)),) * 60)
            for form in [((0, (0,)),), ((None, (0,)), (1, (0,)))]:
                self.assertRaises(InvalidForm, plan_of, setting, form)
        self.assert_made(Setting(1), ((None, (0,)),) * 3)

    def test_things_that_are_no_forms(self):
        same = (0, 1)
        wrong = [
            *[thing for thing in WRONG_THINGS], [(0, same)], (0, same), ((0, same), 0), ([0, same],), ((0,),), ((0, same, 0),),
            ((0, list(same)),), ((0, (0,)),), ((0, (0, 1, 0)),), ((0, (0, 2)),), ((0, (True, 0)),), ((0, None),), ((1, same),),
            ((-1, same),), ((True, same), (0, same)), ((False, same),), (("0", same),), ((None, same),), ((0, (0, 0)),),
            ((0, (1, 1)),), ((0, same), (0, same)), ((0, same), (0, (1, 0))), ((1, same), (1, same)), ((0, same), None),
            ((10 ** 99, same),), (((0,), same),), tuple((k, same) for k in range(61)), ((None, (1, 1)),) * 61,
            ((2, same), (1, same)), {0: same}, "", 0, ((Setting(2), same),), ((0, Setting(2)),),
        ]
        for thing in wrong:
            if thing == ():
                continue
            with self.assertRaises(InvalidForm) as caught:
                plan_of(ODDS, thing)
            self.assertEqual(caught.exception.thing, thing)
        # What is no form is told before what is not made.
        self.assertRaises(InvalidForm, plan_of, Setting(2), ((None, (0, 0)), (1, (0, 0))))

    def assert_not_made(self, setting, form, place):
        with self.assertRaises(NotMade) as caught:
            plan_of(setting, form)
        self.assertEqual(caught.exception.place, place)

    def test_not_made(self):
        same, flip = (0, 1), (1, 0)
        still = Setting(2, FLIP)
        self.assert_not_made(still, ((1, same), (0, same)), 0)
        self.assert_not_made(still, ((0, flip), (2, same), (1, flip)), 1)
        self.assert_not_made(still, ((None, (0, 0)), (0, flip)), 0)
        self.assert_not_made(still, ((0, flip), (1, same), (None, (1, 1))), 2)
        self.assert_not_made(ODDS, ((1, same), (None, (1, 1)), (0, same)), 1)
        self.assert_not_made(Setting(2, None, None, True), ((1, same), (0, flip)), 1)
        self.assert_not_made(Setting(2), ((0, same), (1, same), (2, flip)), 2)
        # No deeds come to the map that replaces each value by itself; up comes to it by three steps.
        self.assert_made(Setting(2), ((0, same), (1, same)))
        up = Setting(3, {"up": (1, 2, 0)})
        self.assert_made(up, ((0, (2, 0, 1)), (1, (0, 1, 2))))
        self.assert_not_made(up, ((0, (2, 0, 1)), (1, (1, 0, 2))), 1)
        # A place with a constant map needs no value, so no other place is needed for it.
        zero = Setting(2, {"zero": (0, 0)})
        self.assert_made(zero, ((None, (0, 0)), (1, same), (None, (0, 0))))
        self.assert_not_made(zero, ((None, (0, 0)), (0, same)), 1)


class TestErrors(unittest.TestCase):
    def calls(self):
        return [
            lambda plan, length: form_of(ODDS, plan, length),
            lambda plan, length: idle(ODDS, plan, length),
            lambda plan, length: swaps(ODDS, plan, length),
            lambda plan, length: plans_parted(ODDS, plan, None, length),
            lambda plan, length: plans_told(ODDS, plan, None, length),
        ]

    def test_length_is_first(self):
        for length in WRONG_LENGTHS:
            for plan in [None, [], [None]]:
                for call in self.calls():
                    with self.assertRaises(InvalidLength) as caught:
                        call(plan, length)
                    self.assertEqual(caught.exception.length, length)
                    self.assertIs(type(caught.exception.length), type(length))
        self.assertEqual([len(form_of(ODDS, [], length)) for length in [0, 60]], [0, 60])

    def test_then_plan(self):
        for call in self.calls():
            for plan in NO_PLANS:
                with self.assertRaises(InvalidPlan) as caught:
                    call(plan, 3)
                self.assertIsNone(caught.exception.place)
            for step in WRONG_STEPS:
                for plan in [[step, None], (("flip", 0, 3), ("flip", 1, 1), step)]:
                    with self.assertRaises(InvalidPlan) as caught:
                        call(plan, 3)
                    self.assertEqual(caught.exception.place, 0 if isinstance(plan, list) else 2)

    def test_then_other(self):
        for call in [plans_parted, plans_told]:
            for plan in NO_PLANS:
                with self.assertRaises(InvalidPlan) as caught:
                    call(ODDS, [("flip", 0, 3)], plan, 3)
                self.assertIsNone(caught.exception.place)
            for step in WRONG_STEPS:
                with self.assertRaises(InvalidPlan) as caught:
                    call(ODDS, [("flip", 0, 3), ("flip", 0, 3)], [("flip", 0, 3), step, ("turn", 0, 0)], 3)
                self.assertEqual(caught.exception.place, 1)
                with self.assertRaises(InvalidPlan) as caught:
                    call(ODDS, [("flip", 0, 3), ("flip", 0, 3), None], [("flip", 0, 3), step], 3)
                self.assertEqual(caught.exception.place, 2)

    def test_not_a_setting_is_before_all(self):
        for thing in [thing for thing in WRONG_THINGS if not isinstance(thing, Setting)]:
            for call in [
                lambda: run(thing, None, None),
                lambda: form_of(thing, None, None),
                lambda: plans_parted(thing, None, None, None),
                lambda: idle(thing, None, None),
                lambda: swaps(thing, None, None),
                lambda: plans_told(thing, None, None, None),
                lambda: plan_of(thing, None),
            ]:
                with self.assertRaises(NotASetting) as caught:
                    call()
                self.assertEqual(caught.exception.thing, thing)


class TestNothingIsChanged(unittest.TestCase):
    def test_arguments_stay_as_they_were(self):
        plan = [("flip", 0, 2), ("flip", 1, 2), ("flip", 0, 0)]
        other = [("flip", 1, 2)]
        before = list(plan), list(other)
        run(ODDS, plan, (0, 1))
        form_of(ODDS, plan, 2)
        plans_parted(ODDS, plan, other, 2)
        plans_told(ODDS, plan, other, 2)
        idle(ODDS, plan, 2)
        swaps(ODDS, plan, 2)
        self.assertEqual((plan, other), before)

    def test_what_was_returned_is_changed(self):
        plan = [("flip", 0, 2), ("flip", 1, 2), ("flip", 0, 0)]
        idle(ODDS, plan, 2).append(7)
        swaps(ODDS, plan, 2).clear()
        self.assertEqual((idle(ODDS, plan, 2), swaps(ODDS, plan, 2)), ([2], [0, 1]))
        self.assertIs(type(idle(ODDS, [], 2)), list)
        self.assertIs(type(swaps(ODDS, [], 2)), list)
        form = form_of(ODDS, plan, 2)
        self.assertEqual(plan_of(ODDS, form), plan_of(ODDS, form))
        self.assertTrue(ODDS == Setting(2, FLIP, {"odd": ODD}, True))

    def test_order_of_the_keys_means_nothing(self):
        maps = {"b": (1, 2, 0), "a": (1, 2, 0), "c": (0, 0, 1)}
        asks = {"z": (0, ((0, 1, 2),) * 3, (0, 1, 2)), "y": (0, ((0, 0, 0),), (1,))}
        one = Setting(3, maps, asks, True)
        other = Setting(3, dict(reversed(maps.items())), dict(reversed(asks.items())), True)
        form = ((1, (2, 0, 1)), (0, (1, 1, 2)), (None, (0, 0, 0)))
        self.assertEqual(plan_of(one, form), plan_of(other, form))
        self.assertEqual(plans_told(one, [("b", 0, 2)], [], 2), plans_told(other, [("b", 0, 2)], [], 2))


if __name__ == "__main__":
    unittest.main()
