"""The least table of a setting, and what can be told from it."""

from lazytags.exploring import ways_of
from lazytags.growing import MOST_RECORDS, grown, value_leads
from lazytags.settings import need_row, need_setting


def least_records(setting):
    """The least table."""
    need_setting(setting)
    return least_table(setting, MOST_RECORDS)


def least_table(setting, most):
    """The least table. Raises TooMany if it has more than most records."""
    origins, nexts = grown(setting, most)
    return table_of(setting, origins, nexts)


def table_of(setting, origins, nexts):
    """The least table, given where its records come from and where they lead."""
    joins = joins_of(origins, nexts)
    moves = {name: map_moves(origins, nexts, mapping) for name, mapping in setting.maps.items()}
    if setting.turning:
        moves["turn"] = turn_moves(origins, nexts, joins)
    answers = {name: answers_of(origins, machine) for name, machine in setting.asks.items()}
    return (nexts[0], joins, moves, answers)


def joins_of(origins, nexts):
    """The joins of all records: a record followed by another one is followed by its values, one after the other."""
    joins = []
    for record in range(len(nexts)):
        line = [record]
        for before, value in origins[1:]:
            line.append(nexts[line[before]][value])
        joins.append(tuple(line))
    return tuple(joins)


def map_moves(origins, nexts, mapping):
    """What each record becomes by a map."""
    line = [0]
    for before, value in origins[1:]:
        line.append(nexts[line[before]][mapping[value]])
    return tuple(line)


def turn_moves(origins, nexts, joins):
    """What each record becomes if its rows are turned round: the last value goes ahead of all others."""
    line = [0]
    for before, value in origins[1:]:
        line.append(joins[nexts[0][value]][line[before]])
    return tuple(line)


def answers_of(origins, machine):
    """The answer of an ask for each record."""
    start, steps, answers = machine
    states = [start]
    for before, value in origins[1:]:
        states.append(steps[states[before]][value])
    return tuple([answers[state] for state in states])


def least_rows(setting):
    """The list of the least rows of the records of the least table."""
    need_setting(setting)
    origins, _ = grown(setting)
    return rows_of(setting, origins)


def rows_of(setting, origins):
    """The list of the least rows, given where their records come from."""
    return ways_of(origins, list(range(setting.size)))


def record_of(setting, row):
    """The record of a row in the least table."""
    need_setting(setting)
    need_row(setting, row)
    _, nexts = grown(setting)
    return record_after(nexts, row)


def record_after(nexts, row):
    """The record of a row, given where the values lead from each record."""
    record = 0
    for value in row:
        record = nexts[record][value]
    return record


def same_values(setting):
    """The list of the lists of values that are alike."""
    need_setting(setting)
    # For a row of one value it is enough where the value leads: turned round the row stays as it is.
    groups = {}
    for value, lead in enumerate(value_leads(setting)):
        groups.setdefault(tuple(lead), []).append(value)
    return list(groups.values())
