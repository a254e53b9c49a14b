"""Contexts: what a row answers within one, and contexts that tell two rows apart."""

from lazytags.checks import is_row
from lazytags.errors import InvalidForm
from lazytags.exploring import explored, way_to
from lazytags.growing import map_words
from lazytags.machines import machines_parted, shrunk, state_after
from lazytags.settings import need_row, need_setting


def in_context(setting, context, row):
    """The answer of a row in a context."""
    need_setting(setting)
    if not is_context(setting, context):
        raise InvalidForm(context)
    need_row(setting, row)
    return answer_within(setting, context, row)


def is_context(setting, thing):
    """Whether thing is a context of the setting."""
    if not isinstance(thing, tuple) or len(thing) != 4:
        return False
    ask, left, deeds, right = thing
    if ask not in list(setting.asks) or not isinstance(deeds, tuple):
        return False
    known = setting.deeds
    return all([deed in known for deed in deeds]) and is_row(left, setting.size) and is_row(right, setting.size)


def answer_within(setting, context, row):
    """The answer of what surely is a row in what surely is a context."""
    ask, left, deeds, right = context
    return setting.answer(ask, left + setting.after(deeds, row) + right)


def parted(setting, row, other):
    """None if two rows are the same, otherwise a context in which their answers differ."""
    need_rows(setting, row, other)
    return parting(setting, row, other)


def need_rows(setting, row, other):
    """Raises NotASetting, then InvalidRow for the first one that is not a row of the setting."""
    need_setting(setting)
    need_row(setting, row)
    need_row(setting, other)


def parting(setting, row, other):
    """What parted tells of what surely are rows."""
    machines = {name: shrunk(machine) for name, machine in setting.asks.items()}
    for deeds in deeds_that_differ(setting):
        one = setting.after(deeds, row)
        two = setting.after(deeds, other)
        for name, machine in machines.items():
            sides = sides_parting(machine, one, two)
            if sides is not None:
                left, right = sides
                return (name, left, deeds, right)
    return None


def deeds_that_differ(setting):
    """A tuple of deeds for each thing that deeds do to whole rows: a map, and perhaps to turn them round."""
    words = list(map_words(setting).values())
    if setting.turning:
        words = words + [(*word, "turn") for word in words]
    return words


def sides_parting(machine, one, two):
    """A left and a right between which two rows have different answers of a least machine, or None."""
    start, steps, answers = machine
    for state in range(len(steps)):
        end = state_after(steps, state, one)
        other_end = state_after(steps, state, two)
        if end != other_end:
            _, origins, _ = explored(start, len(steps[0]), lambda past, value: steps[past][value])
            # A least machine numbers its states as they are explored, so the state is its own place.
            left = way_to(origins, state)
            return left, machines_parted((end, steps, answers), (other_end, steps, answers))
    return None


def check_parting(setting, row, other, thing):
    """Whether thing is a context of the setting in which the answers of two rows differ."""
    need_rows(setting, row, other)
    if not is_context(setting, thing):
        return False
    return answer_within(setting, thing, row) != answer_within(setting, thing, other)
