"""Kept rows: what is done on them, what is asked of them, what is taken back, and copies."""

import random
import unittest

from lazytags.errors import InvalidRange, InvalidRow, LazyError, NoSuchAsk, NoSuchDeed, NotASetting, NothingToUndo, TooMany
from lazytags.kept import Kept
from lazytags.settings import Setting
from tests.makers import LAST, NEST, ODD, WRONG_THINGS, PlainRecords, cycle, plain_answer, random_machine, random_setting
from tests.makers import tailed_cycle

ODDS = Setting(2, {"flip": (1, 0)}, {"odd": ODD}, True)
BOTH = Setting(2, {"flip": (1, 0), "odd": (1, 1)}, {"odd": ODD, "last": LAST}, True)
NO_PLACES = [None, True, False, -1, 4, 10 ** 99, "", "0", (0,), [0], {}, Setting(2), NEST]
NO_ANSWERS = [None, True, False, -1, 2, 100, 10 ** 99, -10 ** 99, "", "1", (1,), [1], {"a": 1}, Setting(2), NEST]
WRONG_ROWS = [thing for thing in WRONG_THINGS if thing != ()] + [(0, 2), [0, 1], (0, True), (0, -1), "01", ((0,),)]


def random_kept(rng, records):
    """A setting with few records, the plain way to work them out, and a row."""
    while True:
        setting = random_setting(rng, rng.randint(1, 3), 3)
        plain = PlainRecords(setting, records)
        if len(plain.rows) <= records and (setting.asks or rng.random() < 0.1):
            return setting, plain, tuple(rng.randrange(setting.size) for _ in range(rng.randrange(7)))


def random_range(rng, many):
    start = rng.randint(0, many)
    return start, rng.randint(start, many)


class Model:
    """A plain kept row, to compare with."""

    def __init__(self, setting, row):
        self.setting = setting
        self.now = list(row)
        self.past = []

    def copy(self):
        twin = Model(self.setting, self.now)
        twin.past = [list(row) for row in self.past]
        return twin

    def step(self, rng, kept):
        """Does one step on both, perhaps one that is refused, or takes one back."""
        kind = rng.randrange(7)
        many = len(self.now)
        start, stop = random_range(rng, many)
        if kind == 0:
            return self.undo(kept)
        if kind == 1:
            return self.refused(rng, kept)
        before = list(self.now)
        if kind in (2, 3) and self.setting.deeds:
            deed = rng.choice(self.setting.deeds)
            told = kept.do(deed, start, stop)
            part = self.now[start:stop]
            part = part[::-1] if deed == "turn" else [self.setting.maps[deed][value] for value in part]
            self.now[start:stop] = part
            due = None
        elif kind == 4:
            told = kept.cut(start, stop)
            due = tuple(self.now[start:stop])
            del self.now[start:stop]
        elif many < 12:
            row = tuple(rng.randrange(self.setting.size) for _ in range(rng.randrange(4)))
            told = kept.put(start, row)
            due = None
            self.now[start:start] = row
        else:
            return None
        self.past.append(before)
        return told, due

    def undo(self, kept):
        if self.past:
            self.now = self.past.pop()
            return kept.undo(), None
        try:
            kept.undo()
        except NothingToUndo:
            return None
        raise AssertionError("nothing was to be taken back")

    def refused(self, rng, kept):
        many = len(self.now)
        calls = [
            (kept.do, "no", 0, 0), (kept.do, "turns", 0, 0), (kept.cut, 1, 0), (kept.cut, 0, many + 1), (kept.cut, -1, many),
            (kept.put, many + 1, ()), (kept.put, 0, (4,)), (kept.put, 0, [0]), (kept.put, True, ()), (kept.cut, False, True),
        ]
        call, *arguments = rng.choice(calls)
        try:
            call(*arguments)
        except LazyError:
            return None
        raise AssertionError("a wrong step was not refused")


class Refusals(unittest.TestCase):
    def refuses(self, kind, thing, call, *arguments):
        with self.assertRaises(LazyError) as caught:
            call(*arguments)
        self.assertIs(type(caught.exception), kind, (call, arguments))
        self.assertEqual(vars(caught.exception), thing)


class TestSteps(Refusals):
    def test_new_ones(self):
        self.assertEqual(Kept(ODDS).row(), ())
        self.assertEqual(len(Kept(ODDS)), 0)
        self.assertEqual(Kept(ODDS, (1, 0)).row(), (1, 0))
        self.assertEqual(Kept(row=(1, 0), setting=ODDS).row(), (1, 0))
        self.assertEqual(len(Kept(ODDS, (1,) * 200)), 200)

    def test_do_on_each_range(self):
        row = (0, 1, 1, 0, 1)
        for start in range(6):
            for stop in range(start, 6):
                for deed in ["flip", "odd", "turn"]:
                    kept = Kept(BOTH, row)
                    self.assertIsNone(kept.do(deed, start, stop))
                    self.assertEqual(kept.row(), row[:start] + BOTH.after([deed], row[start:stop]) + row[stop:])
                    self.assertIsNone(kept.undo())
                    self.assertEqual(kept.row(), row)
        kept = Kept(BOTH, row)
        kept.do(start=1, stop=5, deed="turn")
        self.assertEqual(kept.row(), (0, 1, 0, 1, 1))

    def test_put_at_each_place(self):
        row = (0, 1, 1)
        for place in range(4):
            for more in [(), (1,), (0, 0, 1), (1,) * 60]:
                kept = Kept(ODDS, row)
                self.assertIsNone(kept.put(place, more))
                self.assertEqual(kept.row(), row[:place] + more + row[place:])
                self.assertEqual(len(kept), 3 + len(more))
                kept.undo()
                self.assertEqual(kept.row(), row)
        kept = Kept(ODDS)
        kept.put(row=(0, 1), place=0)
        kept.put(2, (1, 1))
        kept.put(0, (0,))
        self.assertEqual(kept.row(), (0, 0, 1, 1, 1))

    def test_cut_of_each_range(self):
        row = (0, 1, 1, 0)
        for start in range(5):
            for stop in range(start, 5):
                kept = Kept(ODDS, row)
                told = kept.cut(start, stop)
                self.assertEqual([type(told), told], [tuple, row[start:stop]])
                self.assertEqual(kept.row(), row[:start] + row[stop:])
                kept.undo()
                self.assertEqual(kept.row(), row)
        self.assertEqual(Kept(ODDS, row).cut(stop=4, start=3), (0,))

    def test_empty_rows(self):
        kept = Kept(ODDS)
        kept.do("turn", 0, 0)
        kept.do("flip", 0, 0)
        kept.put(0, ())
        self.assertEqual(kept.cut(0, 0), ())
        self.assertEqual([kept.row(), len(kept), kept.ask("odd", 0, 0), kept.record(0, 0)], [(), 0, 0, 0])
        self.assertEqual([kept.first("odd", 0, 0), kept.first("odd", 1, 0)], [0, None])
        self.assertEqual([kept.how_many("odd", 0), kept.how_many("odd", 1)], [1, 0])
        # Steps that change nothing are steps.
        for _ in range(4):
            kept.undo()
        self.refuses(NothingToUndo, {}, kept.undo)

    def test_back_to_the_beginning(self):
        kept = Kept(ODDS, (0, 1))
        self.refuses(NothingToUndo, {}, kept.undo)
        kept.put(1, (1, 1))
        kept.do("flip", 0, 3)
        kept.cut(1, 3)
        self.assertEqual(kept.row(), (1, 1))
        rows = []
        for _ in range(3):
            kept.undo()
            rows.append(kept.row())
        self.assertEqual(rows, [(1, 0, 0, 1), (0, 1, 1, 1), (0, 1)])
        self.refuses(NothingToUndo, {}, kept.undo)
        self.assertEqual(kept.row(), (0, 1))
        # What was taken back is no step any more.
        kept.do("flip", 0, 1)
        kept.undo()
        self.refuses(NothingToUndo, {}, kept.undo)

    def test_refused_steps_change_nothing_and_are_not_taken_back(self):
        kept = Kept(ODDS, (0, 1, 1))
        kept.do("flip", 0, 1)
        self.refuses(NoSuchDeed, {"name": "odd"}, kept.do, "odd", 0, 1)
        self.refuses(InvalidRange, {"thing": (2, 4)}, kept.do, "flip", 2, 4)
        self.refuses(InvalidRange, {"thing": 4}, kept.put, 4, (0,))
        self.refuses(InvalidRow, {"thing": (0, 2)}, kept.put, 0, (0, 2))
        self.refuses(InvalidRange, {"thing": (2, 1)}, kept.cut, 2, 1)
        self.refuses(NoSuchAsk, {"name": "flip"}, kept.ask, "flip", 0, 1)
        self.assertEqual(kept.row(), (1, 1, 1))
        kept.undo()
        self.assertEqual(kept.row(), (0, 1, 1))
        self.refuses(NothingToUndo, {}, kept.undo)


class TestQuestions(Refusals):
    def test_by_hand(self):
        kept = Kept(BOTH, (1, 0, 1, 1))
        self.assertEqual([kept.ask("odd", 0, 4), kept.ask("odd", 0, 1), kept.ask("last", 0, 2), kept.ask("last", 3, 3)], [1, 1, 0, 9])
        self.assertEqual([kept.first("last", 9, 2), kept.first("last", 0, 2), kept.first("last", 0, 0)], [2, None, 2])
        self.assertEqual([kept.first("odd", 0, 0), kept.first("odd", 1, 0), kept.first("odd", 0, 4)], [0, 1, 4])
        self.assertIsNone(kept.first("odd", 1, 4))
        self.assertEqual([kept.how_many("last", 9), kept.how_many("last", 0), kept.how_many("last", 1)], [5, 2, 8])
        self.assertEqual(kept.how_many(wanted=7, name="last"), 0)
        self.assertEqual(kept.first(start=1, wanted=1, name="odd"), 3)
        self.assertEqual(kept.ask(stop=4, start=2, name="odd"), 0)
        self.assertEqual(Kept(ODDS, (0, 1)).record(stop=2, start=0), 3)

    def test_wanted_may_be_anything(self):
        kept = Kept(ODDS, (1, 0, 1))
        for wanted in NO_ANSWERS:
            for start in range(4):
                self.assertIsNone(kept.first("odd", wanted, start), wanted)
            told = kept.how_many("odd", wanted)
            self.assertEqual([type(told), told], [int, 0], wanted)
        self.assertEqual([kept.how_many("odd", 0), kept.how_many("odd", 1)], [6, 4])

    def test_the_greatest_and_the_least_answer(self):
        kept = Kept(Setting(2, None, {"last": (0, ((1, 2), (1, 2), (1, 2)), (50, 0, 99))}), (0, 1, 1))
        for wanted, first, many in [(0, 1, 1), (50, 0, 4), (99, 2, 5), (98, None, 0), (100, None, 0), (-1, None, 0)]:
            self.assertEqual([kept.first("last", wanted, 0), kept.how_many("last", wanted)], [first, many])

    def test_random_steps_and_all_questions(self):
        rng = random.Random(21)
        for _ in range(40):
            setting, plain, row = random_kept(rng, 12)
            kept, model = Kept(setting, row), Model(setting, row)
            for _ in range(30):
                told = model.step(rng, kept)
                if told is not None:
                    self.assertEqual(told[0], told[1])
                self.compare(kept, model, plain)

    def compare(self, kept, model, plain):
        row = tuple(model.now)
        many = len(row)
        self.assertEqual([kept.row(), len(kept)], [row, many])
        self.assertEqual(kept, Kept(model.setting, row))
        self.assertFalse(kept == Kept(model.setting, row + (0,)))
        ranges = [(start, stop) for start in range(many + 1) for stop in range(start, many + 1)]
        for start, stop in ranges[::5]:
            self.assertEqual(kept.record(start, stop), plain.place(row[start:stop]))
        for name, machine in model.setting.asks.items():
            told = {place: plain_answer(machine, row[place[0]:place[1]]) for place in ranges}
            for start, stop in ranges[::5]:
                self.assertEqual(kept.ask(name, start, stop), told[(start, stop)])
            for wanted in range(4):
                self.assertEqual(kept.how_many(name, wanted), list(told.values()).count(wanted))
                for start in range(0, many + 1, 2):
                    stops = [stop for stop in range(start, many + 1) if told[(start, stop)] == wanted]
                    self.assertEqual(kept.first(name, wanted, start), min(stops, default=None))

    def test_questions_change_nothing(self):
        kept = Kept(ODDS, (1, 0, 1))
        kept.do("turn", 0, 2)
        for _ in range(2):
            self.assertEqual(
                [kept.ask("odd", 0, 3), kept.record(0, 3), kept.first("odd", 0, 1), kept.how_many("odd", 1), kept.row()],
                [0, 1, 1, 3, (0, 1, 1)],
            )
        kept.undo()
        self.refuses(NothingToUndo, {}, kept.undo)

    def test_just_300_records_and_more(self):
        just = Setting(1, {"stay": (0,)}, {"a": cycle(25), "b": cycle(12)}, True)
        kept = Kept(just, (0,) * 200)
        self.assertEqual([kept.record(0, 0), kept.record(3, 200), kept.record(0, 200)], [0, 197, 200])
        kept.put(200, (0,) * 150)
        self.assertEqual(kept.record(0, 349), 49)
        more = Setting(1, {"stay": (0,)}, {"a": tailed_cycle(1, 25), "b": cycle(12)}, True)
        kept = Kept(more, (0,) * 200)
        for _ in range(2):
            self.refuses(TooMany, {}, kept.record, 0, 0)
            self.refuses(InvalidRange, {"thing": (0, 201)}, kept.record, 0, 201)
        # Nothing else needs the least table.
        kept.do("turn", 0, 200)
        kept.do("stay", 0, 200)
        self.assertEqual([kept.ask("b", 0, 200), kept.first("b", 11, 5), kept.how_many("a", 0)], [8, 16, 201])
        self.refuses(TooMany, {}, kept.copy().record, 0, 0)


class TestCopiesAndEquality(Refusals):
    def test_copies_go_on_apart(self):
        kept = Kept(ODDS, (0, 1))
        kept.do("flip", 0, 2)
        twin = kept.copy()
        self.assertIs(type(twin), Kept)
        self.assertEqual(twin, kept)
        kept.put(0, (1, 1))
        twin.cut(0, 1)
        self.assertEqual([kept.row(), twin.row()], [(1, 1, 1, 0), (0,)])
        kept.undo()
        kept.undo()
        self.assertEqual([kept.row(), twin.row()], [(0, 1), (0,)])
        self.refuses(NothingToUndo, {}, kept.undo)
        twin.undo()
        twin.undo()
        self.assertEqual(twin.row(), (0, 1))
        self.refuses(NothingToUndo, {}, twin.undo)

    def test_copies_of_copies(self):
        rng = random.Random(22)
        for _ in range(20):
            setting, plain, row = random_kept(rng, 12)
            pairs = [(Kept(setting, row), Model(setting, row))]
            for _ in range(80):
                at = rng.randrange(len(pairs))
                kept, model = pairs[at]
                if rng.random() < 0.1:
                    pairs.append((kept.copy(), model.copy()))
                else:
                    model.step(rng, kept)
                if rng.random() < 0.1 and len(kept) > 0:
                    self.assertEqual(kept.record(0, 1), plain.place(kept.row()[:1]))
                self.assertEqual([kept.row() for kept, _ in pairs], [tuple(model.now) for _, model in pairs])
            for kept, model in pairs:
                while model.past:
                    model.undo(kept)
                    self.assertEqual(kept.row(), tuple(model.now))
                self.refuses(NothingToUndo, {}, kept.undo)

    def test_equality(self):
        kept = Kept(ODDS, (0, 1))
        same = Setting(2, {"flip": (1, 0)}, {"odd": ODD}, True)
        self.assertTrue(kept == Kept(same, (0, 1)))
        self.assertFalse(kept != Kept(same, (0, 1)))
        others = [Kept(ODDS, (1, 0)), Kept(ODDS, ()), Kept(BOTH, (0, 1)), Kept(Setting(2), (0, 1)), Kept(Setting(3), (0, 1))]
        for other in [*others, ODDS, (0, 1), [0, 1], None, True, 0, "", {}, NEST]:
            self.assertFalse(kept == other)
            self.assertTrue(kept != other)
        # The steps that can be taken back do not matter.
        turned = Kept(ODDS, (1, 0))
        turned.do("turn", 0, 2)
        self.assertTrue(turned == kept)
        turned.undo()
        self.assertFalse(turned == kept)


class TestErrors(Refusals):
    def test_new_ones(self):
        for thing in [thing for thing in WRONG_THINGS if not isinstance(thing, Setting)] + [Kept(ODDS)]:
            self.refuses(NotASetting, {"thing": thing}, Kept, thing, None)
            self.refuses(NotASetting, {"thing": thing}, Kept, thing)
        for row in WRONG_ROWS:
            self.refuses(InvalidRow, {"thing": row}, Kept, ODDS, row)

    def test_names_first(self):
        kept = Kept(Setting(2, {"flip": (1, 0)}, {"odd": ODD}), (0, 1, 1))
        for name in ["odd", "turn", "", None, True, 0, ("flip",), ["flip"], {}, Setting(2), NEST]:
            self.refuses(NoSuchDeed, {"name": name}, kept.do, name, None, None)
        for name in ["flip", "turn", "", None, True, 0, ("odd",), ["odd"], {}, Setting(2), NEST]:
            self.refuses(NoSuchAsk, {"name": name}, kept.ask, name, None, None)
            self.refuses(NoSuchAsk, {"name": name}, kept.first, name, None, None)
            self.refuses(NoSuchAsk, {"name": name}, kept.how_many, name, None)

    def test_ranges_and_places(self):
        kept = Kept(ODDS, (0, 1, 1))
        calls = [
            lambda start, stop: kept.do("flip", start, stop), kept.cut, kept.record,
            lambda start, stop: kept.ask("odd", start, stop),
        ]
        for place in NO_PLACES:
            for call in calls:
                self.refuses(InvalidRange, {"thing": (place, 3)}, call, place, 3)
                self.refuses(InvalidRange, {"thing": (0, place)}, call, 0, place)
                self.refuses(InvalidRange, {"thing": (2, 1)}, call, 2, 1)
            self.refuses(InvalidRange, {"thing": place}, kept.put, place, None)
            for wanted in [0, None]:
                self.refuses(InvalidRange, {"thing": place}, kept.first, "odd", wanted, place)
        for row in WRONG_ROWS:
            self.refuses(InvalidRow, {"thing": row}, kept.put, 3, row)
        self.assertEqual(kept.row(), (0, 1, 1))
        self.refuses(NothingToUndo, {}, kept.undo)

    def test_the_setting_is_not_changed(self):
        rng = random.Random(23)
        asks = {"a": random_machine(rng, 3, 2, 2), "b": LAST}
        setting = Setting(2, {"flip": (1, 0)}, asks, True)
        kept = Kept(setting, (0, 1, 1, 0))
        setting.asks.clear()
        setting.maps["flip"] = (0, 0)
        kept.do("flip", 0, 4)
        self.assertEqual([kept.row(), kept.ask("b", 0, 4)], [(1, 0, 0, 1), 1])
        self.assertEqual(setting, Setting(2, {"flip": (1, 0)}, asks, True))


if __name__ == "__main__":
    unittest.main()
