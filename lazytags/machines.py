"""Machines: their answers, the least ones, and machines made of others."""

from lazytags.checks import is_integer, is_line, is_row, is_size
from lazytags.errors import InvalidMachine, InvalidMap, InvalidRow, InvalidSize
from lazytags.exploring import explored, way_to

MOST_STATES = 300


def check_machine(thing, size):
    """None if thing is a machine of this size, otherwise its first problem."""
    if not is_size(size):
        raise InvalidSize(size)
    if not has_machine_form(thing):
        return ("form",)
    start, steps, answers = thing
    for state, line in enumerate(steps):
        if not is_line(line, size, len(steps)):
            return ("steps", state)
    if len(answers) != len(steps) or not all([is_integer(told, 0, 99) for told in answers]):
        return ("answers",)
    if not is_integer(start, 0, len(steps) - 1):
        return ("start",)
    return None


def has_machine_form(thing):
    """Whether thing is a tuple of three items, the last two of them tuples that are not empty."""
    if not isinstance(thing, tuple) or len(thing) != 3:
        return False
    return all([isinstance(part, tuple) and len(part) > 0 for part in thing[1:]])


def machine_size(machine):
    """The size of a machine. Raises InvalidMachine if it is not a machine of any size."""
    for size in range(1, 5):
        if check_machine(machine, size) is None:
            return size
    raise InvalidMachine(machine)


def answer(machine, row):
    """The answer of a machine on a row."""
    if not is_row(row, machine_size(machine)):
        raise InvalidRow(row)
    return answer_on(machine, row)


def answer_on(machine, row):
    """The answer of what surely is a machine on what surely is a row of its size."""
    start, steps, answers = machine
    return answers[state_after(steps, start, row)]


def answers_along(machine, row):
    """The list of the answers of what surely is a machine on all beginnings of a row, the shortest one first."""
    state, steps, answers = machine
    told = [answers[state]]
    for value in row:
        state = steps[state][value]
        told.append(answers[state])
    return told


def state_after(steps, state, row):
    """The state to which a row leads from a state."""
    for value in row:
        state = steps[state][value]
    return state


def least_machine(machine):
    """The least machine that is alike to a machine."""
    machine_size(machine)
    return shrunk(machine)


def shrunk(machine):
    """The least machine of what surely is a machine."""
    start, steps, answers = machine
    firsts = first_likes(steps, answers)
    found, _, leads = explored(firsts[start], len(steps[0]), lambda state, value: firsts[steps[state][value]])
    return (0, tuple(leads), tuple([answers[state] for state in found]))


def first_likes(steps, answers):
    """The list with, for each state, the first state with the same answers on all rows that are read from them."""
    kinds = numbered(answers)
    while True:
        finer = numbered([(kinds[state], tuple([kinds[k] for k in line])) for state, line in enumerate(steps)])
        if finer == kinds:
            return [kinds.index(kind) for kind in kinds]
        kinds = finer


def numbered(things):
    """The list with a number for each thing: equal things have equal ones, new things the next ones from 0 on."""
    numbers = {}
    for thing in things:
        numbers.setdefault(thing, len(numbers))
    return [numbers[thing] for thing in things]


def machines_parted(one, other):
    """None if two machines are alike, otherwise the least row on which their answers differ."""
    size = machine_size(one)
    if check_machine(other, size) is not None:
        raise InvalidMachine(other)
    start, steps, answers = one
    other_start, other_steps, other_answers = other
    pairs, origins, _ = explored(
        (start, other_start), size, lambda pair, value: (steps[pair[0]][value], other_steps[pair[1]][value])
    )
    for place, (state, other_state) in enumerate(pairs):
        if answers[state] != other_answers[other_state]:
            return way_to(origins, place)
    return None


def mapped(machine, mapping):
    """The least machine that answers as the machine does on the row whose values are replaced by the mapping."""
    size = machine_size(machine)
    if not is_row(mapping, size) or not 1 <= len(mapping) <= 4:
        raise InvalidMap(mapping)
    start, steps, answers = machine
    return shrunk((start, mapped_steps(steps, mapping), answers))


def mapped_steps(steps, mapping):
    """The steps of a machine that reads mapping[v] where it is given v."""
    return tuple([tuple([line[value] for value in mapping]) for line in steps])


def turned(machine):
    """The least machine that answers as the machine does on the row turned round."""
    size = machine_size(machine)
    _, steps, answers = shrunk(machine)
    # What a row read so far means for the values to come, which the machine reads before it: the answer from each
    # state on the row turned round. As each state is reached, two such tuples that differ are told apart by some row.
    ends, _, leads = explored(
        answers, size, lambda told, value: tuple([told[line[value]] for line in steps]), MOST_STATES
    )
    return (0, tuple(leads), tuple([told[0] for told in ends]))
