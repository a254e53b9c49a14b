"""Settings: how they are made, that they never change, and what they tell."""

import unittest

from lazytags import errors
from lazytags.errors import InvalidAsks, InvalidDeeds, InvalidMaps, InvalidRow, InvalidSize, InvalidTurning
from lazytags.errors import NoSuchAsk, NoSuchDeed
from lazytags.machines import check_machine
from lazytags.settings import Setting
from tests.makers import FIRST, LAST, NEST, ODD, WRONG_THINGS


def full():
    return Setting(2, {"flip": (1, 0), "zero": (0, 0)}, {"odd": ODD, "flip": LAST}, True)


class TestMaking(unittest.TestCase):
    def test_all_ways_of_handing_in(self):
        maps, asks = {"flip": (1, 0)}, {"odd": ODD}
        one = Setting(2, maps, asks, True)
        others = [
            Setting(size=2, maps=maps, asks=asks, turning=True),
            Setting(2, turning=True, asks=asks, maps=maps),
            Setting(2, maps, turning=True, asks=asks),
            Setting(turning=True, asks=asks, maps=maps, size=2),
        ]
        for other in others:
            self.assertTrue(one == other)
            self.assertEqual((other.size, other.maps, other.asks, other.turning), (2, maps, asks, True))

    def test_what_is_left_out(self):
        for setting in [Setting(3), Setting(3, None, None, False), Setting(3, {}, {}), Setting(3, asks=None, maps={})]:
            self.assertEqual((setting.size, setting.maps, setting.asks), (3, {}, {}))
            self.assertIs(setting.turning, False)
            self.assertEqual(setting.deeds, ())
            self.assertTrue(setting == Setting(3))

    def test_properties(self):
        setting = full()
        self.assertEqual(setting.size, 2)
        self.assertEqual(setting.maps, {"zero": (0, 0), "flip": (1, 0)})
        self.assertEqual(setting.asks, {"flip": LAST, "odd": ODD})
        self.assertIs(setting.turning, True)
        self.assertEqual(setting.deeds, ("flip", "turn", "zero"))
        self.assertEqual(Setting(1, {"z": (0,), "a": (0,)}, {"b": (0, ((0,),), (0,))}).deeds, ("a", "z"))
        self.assertEqual(Setting(1, turning=True).deeds, ("turn",))

    def test_names(self):
        for name in ["a", "abcdefgh", "turns", "tur", "zzzzzzzz"]:
            self.assertEqual(list(Setting(2, {name: (0, 0)}, {name: ODD}).maps), [name])
        for name in ["", "turn", "abcdefghi", "A", "Turn", "a1", "a b", " a", "a\n", "\n", "a_b", "~", "`", "{"]:
            with self.assertRaises(InvalidMaps) as caught:
                Setting(2, {name: (0, 0)})
            self.assertEqual(caught.exception.name, name)
            with self.assertRaises(InvalidAsks) as caught:
                Setting(2, None, {name: ODD})
            self.assertEqual(caught.exception.name, name)

    def test_invalid_size(self):
        for size in [0, 5, -1, True, False, None, "2", (2,), [2], {}, 10 ** 99, Setting(2)]:
            with self.assertRaises(InvalidSize) as caught:
                Setting(size)
            self.assertEqual(caught.exception.size, size)
            self.assertIs(type(caught.exception.size), type(size))

    def test_invalid_maps(self):
        for maps in [[], (), 0, False, "", "a", [("a", (0, 1))], NEST, Setting(2)]:
            with self.assertRaises(InvalidMaps) as caught:
                Setting(2, maps)
            self.assertIsNone(caught.exception.name)
        wrong = [None, (), (0,), (0, 1, 0), [0, 1], (0, 2), (-1, 0), (True, 0), (0, False), "01", 0, {0: 1}, Setting(2)]
        for mapping in wrong:
            with self.assertRaises(InvalidMaps) as caught:
                Setting(2, {"b": (0, 1), "a": mapping})
            self.assertEqual(caught.exception.name, "a")

    def test_invalid_asks(self):
        for asks in [[], (), 0, False, "", "a", [("a", ODD)], NEST, Setting(2)]:
            with self.assertRaises(InvalidAsks) as caught:
                Setting(2, {}, asks)
            self.assertIsNone(caught.exception.name)
        wrong = [*WRONG_THINGS, list(ODD), (2, ODD[1], ODD[2]), (True, ODD[1], ODD[2]), (0, ((0, 0, 0),), (0,))]
        wrong += [(0, ((0,),), (0,)), (0, ((0, 0),), (100,)), (0, ((0, 1),), (0,)), (0, ((0, 0),), (True,))]
        for machine in wrong:
            with self.assertRaises(InvalidAsks) as caught:
                Setting(2, None, {"b": ODD, "a": machine, "c": None})
            self.assertEqual(caught.exception.name, "a")

    def test_least_key_counts(self):
        with self.assertRaises(InvalidMaps) as caught:
            Setting(2, {"d": None, "c": (0, 9), "b": (0, 0), "turn": (0, 1)})
        self.assertEqual(caught.exception.name, "c")
        with self.assertRaises(InvalidMaps) as caught:
            Setting(2, {"c": (0, 9), "B": (0, 0)})
        self.assertEqual(caught.exception.name, "B")
        with self.assertRaises(InvalidAsks) as caught:
            Setting(2, None, {"z": 0, "x": ODD, "": ODD, "y": None})
        self.assertEqual(caught.exception.name, "")

    def test_invalid_turning(self):
        for turning in [None, 0, 1, "", "turn", (), [True], {}, Setting(2)]:
            with self.assertRaises(InvalidTurning) as caught:
                Setting(2, {}, {}, turning)
            self.assertEqual(caught.exception.turning, turning)

    def test_order_of_the_errors(self):
        with self.assertRaises(InvalidSize):
            Setting(0, [], [], 0)
        with self.assertRaises(InvalidMaps):
            Setting(2, [], [], 0)
        with self.assertRaises(InvalidMaps):
            Setting(2, {"a": ()}, [], 0)
        with self.assertRaises(InvalidAsks):
            Setting(2, {"a": (0, 0)}, [], 0)
        with self.assertRaises(InvalidAsks):
            Setting(2, None, {"a": ()}, 0)
        with self.assertRaises(InvalidTurning):
            Setting(2, None, {"a": ODD}, 0)


class TestNeverChanges(unittest.TestCase):
    def test_what_was_handed_in_is_changed(self):
        maps, asks = {"flip": (1, 0), "zero": (0, 0)}, {"odd": ODD, "flip": LAST}
        setting = Setting(2, maps, asks, True)
        self.assertEqual((list(maps), list(asks)), (["flip", "zero"], ["odd", "flip"]))
        maps.clear()
        asks["odd"] = None
        asks["more"] = FIRST
        self.assertTrue(setting == full())
        self.assertEqual(setting.answer("odd", (1,)), 1)

    def test_what_was_returned_is_changed(self):
        setting = full()
        setting.maps.clear()
        setting.asks["odd"] = None
        maps, asks = setting.maps, setting.asks
        maps["flip"] = (0, 0)
        del asks["odd"]
        self.assertTrue(setting == full())
        self.assertIsNot(setting.maps, setting.maps)
        self.assertIsNot(setting.asks, setting.asks)
        self.assertEqual(setting.after(("flip",), (0, 1)), (1, 0))
        self.assertEqual(setting.answer("odd", (1,)), 1)

    def test_a_smaller_setting_shares_nothing(self):
        setting = full()
        smaller = setting.without_deed("turn")
        smaller.maps.clear()
        smaller.asks.clear()
        self.assertTrue(setting == full())
        self.assertTrue(smaller == Setting(2, full().maps, full().asks))

    def test_properties_are_only_read(self):
        setting = full()
        for name in ["size", "maps", "asks", "turning", "deeds"]:
            for worth in [getattr(setting, name), 1, False, None, {}, "turn"]:
                with self.assertRaises(AttributeError):
                    setattr(setting, name, worth)
            with self.assertRaises(AttributeError):
                delattr(setting, name)
        self.assertTrue(setting == full())
        self.assertEqual((setting.size, setting.deeds), (2, ("flip", "turn", "zero")))
        self.assertIs(setting.turning, True)
        self.assertEqual(setting.after(["turn"], (0, 1)), (1, 0))

    def test_size_and_turning_are_only_read_beside_the_errors_that_assign_them(self):
        for size in [3, 0, True, None, "2", [2]]:
            setting = full()
            with self.assertRaises(AttributeError):
                setting.size = size
            with self.assertRaises(AttributeError):
                setting.size += 1
            self.assertTrue(setting == full())
            self.assertEqual((setting.size, setting.without_deed("zero").size), (2, 2))
        for turning in [False, True, 0, None, "turn"]:
            for before in [False, True]:
                setting = Setting(2, {"flip": (1, 0)}, {"odd": ODD}, before)
                with self.assertRaises(AttributeError):
                    setting.turning = turning
                self.assertIs(setting.turning, before)
                self.assertTrue(setting == Setting(2, {"flip": (1, 0)}, {"odd": ODD}, before))
                self.assertEqual(setting.deeds, ("flip", "turn") if before else ("flip",))
        with self.assertRaises(InvalidSize) as caught:
            Setting(size=9)
        self.assertEqual(caught.exception.size, 9)
        with self.assertRaises(InvalidTurning) as caught:
            Setting(2, turning=1)
        self.assertIs(caught.exception.turning, 1)

    def test_calls_change_nothing(self):
        setting = full()
        deeds = ["flip", "turn"]
        setting.after(deeds, (0, 1, 1))
        setting.without_ask("odd")
        setting.without_deed("turn")
        for bad in [lambda: setting.without_ask("no"), lambda: setting.after(["no"], ()), lambda: setting.answer("odd", 0)]:
            with self.assertRaises(errors.LazyError):
                bad()
        self.assertEqual(deeds, ["flip", "turn"])
        self.assertTrue(setting == full())


class TestEquality(unittest.TestCase):
    def test_equal(self):
        other = Setting(2, {"zero": (0, 0), "flip": (1, 0)}, {"flip": LAST, "odd": ODD}, True)
        self.assertIs(full() == other, True)
        self.assertIs(full() != other, False)
        self.assertIs(Setting(1) == Setting(1, {}, {}, False), True)

    def test_unequal(self):
        unlike = (1, ((0, 1), (1, 0)), (1, 0))
        others = [
            Setting(2, {"flip": (1, 0), "zero": (0, 0)}, {"odd": ODD, "flip": LAST}, False),
            Setting(2, {"flip": (1, 0)}, {"odd": ODD, "flip": LAST}, True),
            Setting(2, {"flip": (1, 0), "zero": (0, 1)}, {"odd": ODD, "flip": LAST}, True),
            Setting(2, {"flip": (1, 0), "zera": (0, 0)}, {"odd": ODD, "flip": LAST}, True),
            Setting(2, {"flip": (1, 0), "zero": (0, 0)}, {"odd": ODD}, True),
            Setting(2, {"flip": (1, 0), "zero": (0, 0)}, {"odd": LAST, "flip": ODD}, True),
            # Alike, but not equal as a tuple.
            Setting(2, {"flip": (1, 0), "zero": (0, 0)}, {"odd": unlike, "flip": LAST}, True),
        ]
        for other in others:
            self.assertIs(full() == other, False)
            self.assertIs(other == full(), False)
            self.assertIs(full() != other, True)
        self.assertIs(Setting(1) == Setting(2), False)

    def test_other_things(self):
        others = [None, True, 2, "", (), (2, {}, {}, False), [], {}, {"size": 2}, NEST, errors.InvalidSize(2)]
        for other in others:
            self.assertIs(Setting(2) == other, False)
            self.assertIs(other == Setting(2), False)
            self.assertIs(Setting(2) != other, True)


class TestAfter(unittest.TestCase):
    def test_after(self):
        setting = Setting(3, {"up": (1, 2, 0), "low": (0, 0, 1)}, None, True)
        self.assertEqual(setting.after((), (0, 1, 2)), (0, 1, 2))
        self.assertEqual(setting.after(["up"], (0, 1, 2, 2)), (1, 2, 0, 0))
        self.assertEqual(setting.after(("turn",), (0, 1, 1)), (1, 1, 0))
        self.assertEqual(setting.after(["up", "low", "turn"], (0, 1, 2)), (0, 1, 0))
        self.assertEqual(setting.after(["low", "up"], (0, 1, 2)), (1, 1, 2))
        self.assertEqual(setting.after(deeds=("up",) * 40, row=(0,) * 60), (1,) * 60)
        self.assertEqual(setting.after(["up", "turn", "low"], ()), ())
        self.assertEqual(setting.after(["turn"], (1,) * 300 + (0,)), (0,) + (1,) * 300)

    def test_turn_only_if_turning(self):
        with self.assertRaises(InvalidDeeds) as caught:
            Setting(2, {"flip": (1, 0)}).after(["flip", "turn"], ())
        self.assertEqual(caught.exception.place, 1)

    def test_invalid_deeds(self):
        for deeds in [None, "flip", "", 0, {"flip": 1}, {}, Setting(2)]:
            with self.assertRaises(InvalidDeeds) as caught:
                full().after(deeds, None)
            self.assertIsNone(caught.exception.place)
        for wrong in ["odd", "", None, True, 0, ("flip",), ["flip"], {}, "flip ", Setting(2), NEST]:
            for deeds in [["flip", "turn", wrong, None], ("flip", "zero", wrong)]:
                with self.assertRaises(InvalidDeeds) as caught:
                    full().after(deeds, None)
                self.assertEqual(caught.exception.place, 2)

    def test_then_invalid_row(self):
        for row in [None, [0], (2,), (True,), (0, -1), "0", 0, {}, Setting(2)]:
            with self.assertRaises(InvalidRow) as caught:
                full().after(["flip"], row)
            self.assertEqual(caught.exception.thing, row)
            with self.assertRaises(InvalidRow):
                full().after((), row)


class TestAnswer(unittest.TestCase):
    def test_answer(self):
        self.assertEqual([full().answer("odd", (1, 1, 1)), full().answer("flip", (1, 0)), full().answer("flip", ())], [1, 0, 9])
        self.assertEqual(full().answer(ask="odd", row=(1,) * 301), 1)

    def test_errors_and_their_order(self):
        for ask in ["zero", "turn", "", None, True, 0, ("odd",), ["odd"], {}, Setting(2), NEST]:
            with self.assertRaises(NoSuchAsk) as caught:
                full().answer(ask, None)
            self.assertEqual(caught.exception.name, ask)
        for row in [None, [0], (2,), (True,), (0, -1), "0", 0, {}, Setting(2)]:
            with self.assertRaises(InvalidRow) as caught:
                full().answer("odd", row)
            self.assertEqual(caught.exception.thing, row)


class TestWithout(unittest.TestCase):
    def test_without_ask(self):
        smaller = full().without_ask("flip")
        self.assertTrue(smaller == Setting(2, {"flip": (1, 0), "zero": (0, 0)}, {"odd": ODD}, True))
        self.assertTrue(smaller.without_ask(name="odd") == Setting(2, {"flip": (1, 0), "zero": (0, 0)}, {}, True))

    def test_without_deed(self):
        smaller = full().without_deed("flip")
        self.assertTrue(smaller == Setting(2, {"zero": (0, 0)}, {"odd": ODD, "flip": LAST}, True))
        self.assertTrue(smaller.without_deed(name="turn") == Setting(2, {"zero": (0, 0)}, {"odd": ODD, "flip": LAST}))
        self.assertTrue(full().without_deed("turn") == Setting(2, full().maps, full().asks))
        # Where rows are not turned round, they are not so without another deed either.
        self.assertEqual(full().without_deed("turn").without_deed("flip"), Setting(2, {"zero": (0, 0)}, full().asks))

    def test_errors(self):
        for name in ["zero", "turn", "", None, True, 0, ("odd",), ["odd"], {}, Setting(2)]:
            with self.assertRaises(NoSuchAsk) as caught:
                full().without_ask(name)
            self.assertEqual(caught.exception.name, name)
        for name in ["odd", "turns", "", None, True, 0, ("flip",), ["flip"], {}, Setting(2)]:
            with self.assertRaises(NoSuchDeed) as caught:
                full().without_deed(name)
            self.assertEqual(caught.exception.name, name)
        with self.assertRaises(NoSuchDeed) as caught:
            full().without_deed("turn").without_deed("turn")
        self.assertEqual(caught.exception.name, "turn")

    def test_methods_stand_in_the_class_itself(self):
        for name in ["size", "maps", "asks", "turning", "deeds", "__eq__", "after", "answer", "without_ask", "without_deed"]:
            self.assertIn(name, vars(Setting))
        self.assertIsNone(check_machine(full().asks["odd"], 2))


if __name__ == "__main__":
    unittest.main()
