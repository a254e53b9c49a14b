"""The classes of rows that are the same, found by making rows longer one value at a time."""

from lazytags.errors import TooMany
from lazytags.exploring import explored, explored_some, ways_of
from lazytags.machines import mapped_steps, shrunk

MOST_RECORDS = 300


def map_words(setting):
    """A dict with each map that the maps of some deeds come to, one after the other, and the least such deeds."""
    names = list(setting.maps)
    maps = list(setting.maps.values())
    found, origins, _ = explored(no_map(setting), len(maps), lambda past, k: joined(past, maps[k]))
    return {mapping: word for mapping, word in zip(found, ways_of(origins, names))}


def no_map(setting):
    """The map that replaces each value by itself."""
    return tuple(range(setting.size))


def joined(first, second):
    """The map that the second map comes to after the first one."""
    return tuple([second[value] for value in first])


def views(setting):
    """The steps of the least machine of each ask, reading what the maps of any deeds leave of the row.

    Equal steps stand in the list only once.
    """
    machines = [shrunk(machine) for machine in setting.asks.values()]
    found = {}
    for mapping in map_words(setting):
        for _, steps, _ in machines:
            found[mapped_steps(steps, mapping)] = True
    return list(found)


def value_leads(setting):
    """For each value the list of the states to which it leads from each state of all views.

    The states are numbered one view after the other.
    """
    leads = [[] for _ in range(setting.size)]
    for steps in views(setting):
        before = len(leads[0])
        for line in steps:
            for value, state in enumerate(line):
                leads[value].append(before + state)
    return leads


def grown(setting, most=MOST_RECORDS):
    """The records of the least table: where each comes from, and where each value at its end leads.

    Returns the last two lists of explored. Raises TooMany if there are more than most records.
    """
    origins, nexts = grown_some(setting, most)
    if len(origins) > most:
        raise TooMany()
    return origins, nexts


def grown_some(setting, most):
    """What grown returns, but if there are more than most records it stops at one more than that."""
    leads = value_leads(setting)
    states = tuple(range(len(leads[0])))
    turning = setting.turning

    # Rows are the same just if they lead from each state of each view to the same state, also turned round: the
    # states of least machines are all reached by some left, and no two of them are alike for each right. A value
    # that is added at the end is read last, but first if the row is turned round.
    def longer(ends, value):
        ahead, back = ends
        lead = leads[value]
        return (
            tuple([lead[state] for state in ahead]),
            tuple([back[state] for state in lead]) if turning else (),
        )

    _, origins, nexts = explored_some((states, states if turning else ()), setting.size, longer, most)
    return origins, nexts
