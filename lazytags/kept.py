"""Kept rows: deeds are done on their ranges, and questions are asked of these."""

from lazytags.checks import is_integer
from lazytags.errors import NothingToUndo
from lazytags.growing import grown
from lazytags.machines import answers_along
from lazytags.ranges import need_place, need_range
from lazytags.records import record_after
from lazytags.settings import need_ask, need_deed, need_row, need_setting


class Kept:
    """A row of a setting that is kept, with the steps that can be taken back."""

    def __init__(self, setting, row=()):
        need_setting(setting)
        need_row(setting, row)
        self._setting = setting
        # The rows before each step that can be taken back, and the row that there is now.
        self._rows = [row]
        # Where the values lead from each record: found when a record is first asked for, as this may take long.
        self._nexts = None

    def __len__(self):
        return len(self._rows[-1])

    def __eq__(self, other):
        return isinstance(other, Kept) and self._setting == other._setting and self._rows[-1] == other._rows[-1]

    def row(self):
        """The row."""
        return self._rows[-1]

    def do(self, deed, start, stop):
        """Does a deed on a range."""
        row = self.row()
        need_deed(self._setting, deed)
        need_range(start, stop, len(row))
        self._rows.append(row[:start] + self._setting.after((deed,), row[start:stop]) + row[stop:])

    def put(self, place, row):
        """Puts the values of a row in at a place."""
        before = self.row()
        need_place(place, len(before))
        need_row(self._setting, row)
        self._rows.append(before[:place] + row + before[place:])

    def cut(self, start, stop):
        """Removes the values of a range, and returns them as a row."""
        row = self.row()
        need_range(start, stop, len(row))
        self._rows.append(row[:start] + row[stop:])
        return row[start:stop]

    def undo(self):
        """Takes back the last step."""
        if len(self._rows) == 1:
            raise NothingToUndo()
        self._rows.pop()

    def ask(self, name, start, stop):
        """The answer of an ask on the row of a range."""
        row = self.row()
        need_ask(self._setting, name)
        need_range(start, stop, len(row))
        return self._setting.answer(name, row[start:stop])

    def record(self, start, stop):
        """The record of the row of a range in the least table."""
        row = self.row()
        need_range(start, stop, len(row))
        if self._nexts is None:
            _, self._nexts = grown(self._setting)
        return record_after(self._nexts, row[start:stop])

    def first(self, name, wanted, start):
        """The smallest stop for which the range from start has the answer wanted of an ask, or None."""
        row = self.row()
        need_ask(self._setting, name)
        need_place(start, len(row))
        told = answers_along(self._setting.asks[name], row[start:])
        # True is no answer, though Python finds it among integers.
        if not is_integer(wanted, 0, 99) or wanted not in told:
            return None
        return start + told.index(wanted)

    def how_many(self, name, wanted):
        """The number of the ranges that have the answer wanted of an ask."""
        row = self.row()
        need_ask(self._setting, name)
        if not is_integer(wanted, 0, 99):
            return 0
        machine = self._setting.asks[name]
        return sum([answers_along(machine, row[start:]).count(wanted) for start in range(len(row) + 1)])

    def copy(self):
        """A kept row of its own with the same setting, row and steps that can be taken back."""
        twin = Kept(self._setting)
        twin._rows = list(self._rows)
        twin._nexts = self._nexts
        return twin
