"""Which asks and deeds of a setting are needed to tell the rows apart that are not the same."""

from lazytags.checks import is_row
from lazytags.growing import grown
from lazytags.machines import first_likes
from lazytags.records import least_records, record_after, rows_of, table_of
from lazytags.settings import need_ask, need_deed, need_setting


def untold(setting, ask):
    """None if an ask is determined by the others, otherwise two rows that show that it is not."""
    origins, _, least, kinds = weighed_ask(setting, ask)
    return rows_apart(rows_of(setting, origins), kinds, least[3][ask])


def check_untold(setting, ask, thing):
    """Whether thing is a tuple of two rows that are the same without an ask and have different answers of it."""
    _, nexts, least, kinds = weighed_ask(setting, ask)
    return are_apart(setting, thing, nexts, kinds, least[3][ask])


def unfree(setting, deed):
    """None if a deed is free, otherwise two rows that show that it is not."""
    origins, nexts, kinds = weighed_deed(setting, deed)
    return rows_apart(rows_of(setting, origins), kinds, list(range(len(nexts))))


def check_unfree(setting, deed, thing):
    """Whether thing is a tuple of two rows that are the same without a deed and not the same with it."""
    _, nexts, kinds = weighed_deed(setting, deed)
    return are_apart(setting, thing, nexts, kinds, list(range(len(nexts))))


def weighed_ask(setting, ask):
    """Both lists of grown, the least table, and the kinds of its records in the setting without an ask."""
    need_setting(setting)
    need_ask(setting, ask)
    origins, nexts = grown(setting)
    least = table_of(setting, origins, nexts)
    asks = [name for name in setting.asks if name != ask]
    return origins, nexts, least, kinds_with(least, asks, setting.deeds)


def weighed_deed(setting, deed):
    """Both lists of grown, and the kinds of the records of the least table in the setting without a deed."""
    need_setting(setting)
    need_deed(setting, deed)
    origins, nexts = grown(setting)
    least = table_of(setting, origins, nexts)
    deeds = [name for name in setting.deeds if name != deed]
    return origins, nexts, kinds_with(least, list(setting.asks), deeds)


def kinds_with(least, asks, deeds):
    """The list with, for each record, the first one that is the same in the setting with these asks and deeds only.

    All that is done with a row within a context is done by values that are put behind it or ahead of it, one at a
    time, and by deeds. So two records are the same just if no such steps lead them to different answers.
    """
    ones, joins, moves, answers = least
    steps = []
    told = []
    for record, line in enumerate(joins):
        behind = [line[one] for one in ones]
        ahead = [joins[one][record] for one in ones]
        steps.append(tuple(behind + ahead + [moves[deed][record] for deed in deeds]))
        told.append(tuple([answers[ask][record] for ask in asks]))
    return first_likes(steps, told)


def rows_apart(rows, kinds, told):
    """Two of the least rows whose records are of one kind, but of which different things are told, or None."""
    for record, first in enumerate(kinds):
        if told[record] != told[first]:
            return rows[first], rows[record]
    return None


def are_apart(setting, thing, nexts, kinds, told):
    """Whether thing is a tuple of two rows whose records are of one kind, but of which different things are told."""
    if not isinstance(thing, tuple) or len(thing) != 2:
        return False
    if not all([is_row(row, setting.size) for row in thing]):
        return False
    one, two = [record_after(nexts, row) for row in thing]
    return kinds[one] == kinds[two] and told[one] != told[two]


def enough(setting):
    """The list of the least tuples of asks that are enough."""
    least = least_records(setting)
    deeds = setting.deeds
    return least_ones([asks for asks in choices(list(setting.asks)) if tells_all(least, asks, deeds)])


def enough_deeds(setting):
    """The list of the least tuples of deeds that are enough."""
    least = least_records(setting)
    asks = list(setting.asks)
    return least_ones([deeds for deeds in choices(setting.deeds) if tells_all(least, asks, deeds)])


def choices(names):
    """The list of the tuples of some of the names, those of fewer names first, otherwise in ascending order."""
    found = [()]
    for name in names:
        found = found + [(*chosen, name) for chosen in found]
    return sorted(sorted(found), key=len)


def tells_all(least, asks, deeds):
    """Whether no two records are the same in the setting with these asks and deeds only."""
    return kinds_with(least, asks, deeds) == list(range(len(least[1])))


def least_ones(found):
    """Those of the tuples that contain no other one of them."""
    return [one for one in found if not any([other != one and is_within(other, one) for other in found])]


def is_within(few, many):
    """Whether all of few are among many."""
    return all([name in many for name in few])
