"""What holds of the whole program, in whichever order its functions are asked."""

import os
import pathlib
import random
import subprocess
import sys
import unittest

from lazytags import errors
from lazytags.errors import LazyError, NotASetting
from lazytags.kept import Kept
from lazytags.settings import Setting
from tests.calls import FUNCTIONS, METHODS, anything, calls_made, holders, outcome, parameters, plain_setting_made
from tests.calls import rich_setting_made, setting_made, shown, spoil, turned_round
from tests.makers import NEST, WRONG_THINGS

TOP = pathlib.Path(__file__).resolve().parent.parent


class TestCalls(unittest.TestCase):
    def test_all_functions_are_called_and_some_calls_are_refused(self):
        called = [function for function, _ in calls_made()]
        told = {}
        for call in calls_made():
            told.setdefault(call[0], []).append(outcome(*call)[0])
        for function in FUNCTIONS + METHODS:
            self.assertIn(function, called)
            self.assertIn("told", told[function], function)
        raised = [outcome(*call)[1] for call in calls_made() if outcome(*call)[0] == "raised"]
        self.assertTrue(len(set(raised)) >= 15, set(raised))

    def test_the_same_call_tells_the_same_and_its_arguments_stay_as_they_were(self):
        for (function, arguments), (_, others) in zip(calls_made(), calls_made()):
            before = shown(outcome(function, others))
            for _ in range(2):
                self.assertEqual(shown(outcome(function, arguments)), before, function)
                self.assertEqual(shown(arguments), shown(others))

    def test_any_order_with_what_is_told_changed_in_between(self):
        alone = [shown(outcome(*call)) for call in calls_made()]
        calls = calls_made()
        before = shown([arguments for _, arguments in calls])
        rng = random.Random(41)
        for _ in range(2):
            order = list(range(len(calls))) * 2
            rng.shuffle(order)
            for place in order:
                told = outcome(*calls[place])
                self.assertEqual(shown(told), alone[place], calls[place])
                if told[0] == "told":
                    spoil(told[1])
        self.assertEqual(shown([arguments for _, arguments in calls]), before)

    def test_one_setting_for_all_calls(self):
        alone = {}
        kept = [setting_made(), plain_setting_made(), rich_setting_made()]
        for function, arguments in calls_made():
            alone[(function, shown(arguments))] = shown(outcome(function, arguments))
        calls = calls_made()
        random.Random(42).shuffle(calls)
        for function, arguments in calls * 2:
            due = alone[(function, shown(arguments))]
            if isinstance(arguments[0], Setting):
                arguments = (kept[kept.index(arguments[0])], *arguments[1:])
            told = outcome(function, arguments)
            self.assertEqual(shown(told), due)
            if told[0] == "told":
                spoil(told[1])
        self.assertEqual(kept, [setting_made(), plain_setting_made(), rich_setting_made()])

    def test_lists_and_dicts_that_are_returned_are_new(self):
        many = 0
        for function, arguments in calls_made():
            one, two = outcome(function, arguments), outcome(function, arguments)
            if one[0] == "told":
                of_one, of_two, passed = holders(one[1]), holders(two[1]), holders(arguments)
                many += len(of_one)
                self.assertEqual(len(of_one), len(of_two))
                for place in of_one:
                    self.assertNotIn(place, of_two, function)
                    self.assertNotIn(place, passed, function)
        self.assertTrue(many > 50, many)

    def test_the_order_of_keys_means_nothing(self):
        for function, arguments in calls_made():
            self.assertEqual(shown(outcome(function, turned_round(arguments))), shown(outcome(function, arguments)), function)

    def test_by_position_or_by_name(self):
        for function, arguments in calls_made():
            named = dict(zip(parameters(function), arguments))
            told = outcome(lambda: function(**named), ())
            self.assertEqual(shown(told), shown(outcome(function, arguments)), function)

    def test_in_each_run(self):
        told = []
        for seed in ["0", "1", "77"]:
            settings = {**os.environ, "PYTHONHASHSEED": seed, "PYTHONPATH": str(TOP), "PYTHONDONTWRITEBYTECODE": "1"}
            command = [sys.executable, "-m", "tests.calls"]
            told.append(subprocess.run(command, cwd=TOP, env=settings, capture_output=True, check=True, text=True).stdout)
        self.assertTrue(len(told[0].splitlines()) > 300)
        self.assertEqual(told[0], told[1])
        self.assertEqual(told[0], told[2])


class TestWrongArguments(unittest.TestCase):
    def test_not_a_setting_comes_first(self):
        things = [thing for thing in WRONG_THINGS if not isinstance(thing, Setting)] + [Kept(Setting(2)), "size 2", (2, {}, {})]
        many = 0
        for function in FUNCTIONS:
            names = parameters(function)
            if "setting" not in names:
                continue
            many += 1
            self.assertEqual(names[0], "setting")
            for thing in things:
                for other in [None, NEST, -1, "no", [], {"a": 1}, Setting(3)]:
                    with self.assertRaises(NotASetting) as caught:
                        function(thing, *[other] * (len(names) - 1))
                    self.assertEqual(caught.exception.thing, thing)
                    with self.assertRaises(NotASetting):
                        function(**{name: other for name in names[1:]}, setting=thing)
        # All but those of machines, Setting, pieces and read.
        self.assertEqual(many, len(FUNCTIONS) - 9)

    def test_anything_in_the_place_of_each_argument(self):
        rng = random.Random(43)
        for function, arguments in calls_made():
            if function in METHODS and len(arguments) == 1:
                continue
            first = 1 if function in METHODS else 0
            for at in range(first, len(arguments)):
                for thing in [*rng.sample(WRONG_THINGS, 3), *[anything(rng) for _ in range(4)]]:
                    passed = (*arguments[:at], thing, *arguments[at + 1:])
                    before = shown(passed)
                    told = outcome(function, passed)
                    self.assertEqual(shown(passed), before, function)
                    self.assertEqual(shown(outcome(function, passed)), shown(told), function)

    def test_near_misses_in_the_place_of_each_argument(self):
        # A thing within an argument is exchanged for another one: some calls are refused then, none fails otherwise.
        rng = random.Random(44)
        raised = 0
        for function, arguments in calls_made():
            for _ in range(6):
                at = rng.randrange(len(arguments))
                if at == 0 and function in METHODS:
                    continue
                passed = (*arguments[:at], self.bent(rng, arguments[at]), *arguments[at + 1:])
                told = outcome(function, passed)
                raised += told[0] == "raised"
                self.assertEqual(shown(outcome(function, turned_round(passed))), shown(told), function)
        self.assertTrue(raised > 500)

    def bent(self, rng, thing):
        """The thing with another thing somewhere within it, or in its place."""
        if isinstance(thing, (tuple, list)) and len(thing) > 0 and rng.random() < 0.9:
            at = rng.randrange(len(thing))
            items = list(thing)
            items[at] = self.bent(rng, items[at])
            return tuple(items) if isinstance(thing, tuple) else items
        if isinstance(thing, dict) and thing and rng.random() < 0.9:
            key = rng.choice(sorted(thing))
            return {**thing, key: self.bent(rng, thing[key])}
        return anything(rng, 1)

    def test_errors_have_the_fields_of_their_classes(self):
        for call in calls_made():
            told = outcome(*call)
            if told[0] == "raised":
                kind = getattr(errors, told[1])
                self.assertTrue(issubclass(kind, LazyError))
                self.assertEqual(list(told[2]), list(vars(kind())))


class TestSettingsNeverChange(unittest.TestCase):
    def test_what_was_passed_and_what_is_told_may_change(self):
        maps, asks = {"flip": (1, 0)}, {"odd": (0, ((0, 1), (1, 0)), (0, 1))}
        setting = Setting(2, maps, asks, True)
        maps["flip"] = (0, 0)
        del asks["odd"]
        setting.maps.clear()
        setting.asks["more"] = None
        self.assertEqual(setting.deeds, ("flip", "turn"))
        self.assertEqual([setting.maps, list(setting.asks)], [{"flip": (1, 0)}, ["odd"]])
        less = setting.without_ask("odd")
        self.assertEqual([list(less.asks), list(setting.asks)], [[], ["odd"]])
        for name in ["size", "maps", "asks", "turning", "deeds"]:
            with self.assertRaises(AttributeError):
                setattr(setting, name, getattr(Setting(1), name))
        self.assertEqual(setting, Setting(2, {"flip": (1, 0)}, {"odd": (0, ((0, 1), (1, 0)), (0, 1))}, True))

    def test_kept_rows_of_one_setting_do_not_meet(self):
        setting = setting_made()
        one, two = Kept(setting, (0, 1)), Kept(setting, (0, 1))
        self.assertEqual(two.record(0, 2), one.record(0, 2))
        one.do("one", 0, 2)
        self.assertEqual([one.row(), two.row()], [(1, 1), (0, 1)])
        self.assertNotEqual(two.record(0, 2), one.record(0, 2))
        self.assertEqual(setting, setting_made())


if __name__ == "__main__":
    unittest.main()
