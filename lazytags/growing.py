"""The classes of rows that are the same, found by making rows longer one value at a time."""

from lazytags.exploring import explored
from lazytags.machines import mapped_steps, shrunk

MOST_RECORDS = 300


def joined_maps(setting):
    """The list of the maps that the maps of some deeds, perhaps of none, come to, one after the other."""
    maps = list(setting.maps.values())
    none = tuple(range(setting.size))
    found, _, _ = explored(none, len(maps), lambda past, k: tuple([maps[k][value] for value in past]))
    return found


def views(setting):
    """The steps of the least machine of each ask, reading what each of the joined maps leaves of the row.

    Equal steps stand in the list only once.
    """
    machines = [shrunk(machine) for machine in setting.asks.values()]
    found = {}
    for mapping in joined_maps(setting):
        for _, steps, _ in machines:
            found[mapped_steps(steps, mapping)] = True
    return list(found)


def value_leads(setting):
    """For each value the list of the states to which it leads from each state of all views.

    The states are numbered one view after the other.
    """
    leads = [[] for _ in range(setting.size)]
    for steps in views(setting):
        before = len(leads[0])
        for line in steps:
            for value, state in enumerate(line):
                leads[value].append(before + state)
    return leads


def grown(setting):
    """The records of the least table: where each comes from, and where each value at its end leads.

    Returns the last two lists of explored. Raises TooMany if there are too many records.
    """
    leads = value_leads(setting)
    states = tuple(range(len(leads[0])))
    turning = setting.turning

    # Rows are the same just if they lead from each state of each view to the same state, also turned round: the
    # states of least machines are all reached by some left, and no two of them are alike for each right. A value
    # that is added at the end is read last, but first if the row is turned round.
    def longer(ends, value):
        ahead, back = ends
        lead = leads[value]
        return (
            tuple([lead[state] for state in ahead]),
            tuple([back[state] for state in lead]) if turning else (),
        )

    _, origins, nexts = explored((states, states if turning else ()), setting.size, longer, MOST_RECORDS)
    return origins, nexts
