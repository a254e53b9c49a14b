"""Tags: tuples of deeds that are equivalent, and tag tables."""

from lazytags.checks import is_integer, is_line
from lazytags.errors import InvalidTags
from lazytags.exploring import explored, ways_of
from lazytags.growing import joined
from lazytags.records import least_records, least_rows, least_table
from lazytags.settings import need_deeds, need_setting
from lazytags.tables import cover

MOST_TAGS = 300


def least_tags(setting):
    """The steps of the tags, and what each of them does to the records of the least table."""
    need_setting(setting)
    moves, _, leads = tags_found(setting, least_records(setting), MOST_TAGS)
    deeds = setting.deeds
    return (tuple([{deed: tag for deed, tag in zip(deeds, line)} for line in leads]), tuple(moves))


def tags_found(setting, least, most=None):
    """The moves of the tags, where they come from and where each deed leads, given the least table.

    Deeds are equivalent just if they do the same to the records of the least table. Raises TooMany.
    """
    deeds = setting.deeds
    moves = least[2]
    return explored(no_move(least), len(deeds), lambda past, k: joined(past, moves[deeds[k]]), most)


def no_move(least):
    """What no deeds do to the records of the least table."""
    return tuple(range(len(least[1])))


def tag_words(setting):
    """The list of the words of the tags."""
    need_setting(setting)
    _, origins, _ = tags_found(setting, least_records(setting), MOST_TAGS)
    return ways_of(origins, setting.deeds)


def tag_of(setting, deeds):
    """The tag of a tuple or list of deeds."""
    need_setting(setting)
    need_deeds(setting, deeds)
    _, _, leads = tags_found(setting, least_records(setting), MOST_TAGS)
    known = list(setting.deeds)
    tag = 0
    for deed in deeds:
        tag = leads[tag][known.index(deed)]
    return tag


def deeds_parted(setting, deeds, other):
    """None if two tuples or lists of deeds are equivalent, otherwise the least row that tells them apart."""
    need_setting(setting)
    need_deeds(setting, deeds)
    need_deeds(setting, other)
    least = least_records(setting)
    one = move_of(least, deeds)
    two = move_of(least, other)
    for record, row in enumerate(least_rows(setting)):
        if one[record] != two[record]:
            return row
    return None


def move_of(least, deeds):
    """What each record of the least table becomes by deeds, one after the other."""
    line = no_move(least)
    for deed in deeds:
        line = joined(line, least[2][deed])
    return line


def check_tags(setting, table, thing):
    """None if thing is a right tag table for a right table, otherwise a problem."""
    stands = cover(setting, table)
    problem = form_problem(setting, len(stands), thing)
    if problem is not None:
        return problem
    wrong, _ = tags_covered(setting, stands, thing)
    return wrong


def form_problem(setting, many, thing):
    """The first problem of the form of what should be a tag table for a table with so many records, or None."""
    if not isinstance(thing, tuple) or len(thing) != 2:
        return ("form",)
    if not all([isinstance(part, tuple) and len(part) > 0 for part in thing]):
        return ("form",)
    steps, moves = thing
    deeds = setting.deeds
    for tag, leads in enumerate(steps):
        if not are_leads(leads, deeds, len(steps)):
            return ("steps", tag)
    for tag in range(len(steps)):
        if tag >= len(moves) or not is_line(moves[tag], many, many):
            return ("moves", tag)
    if len(moves) > len(steps):
        return ("moves", len(steps))
    return None


def are_leads(thing, deeds, many):
    """Whether thing is a dict with just the deeds as keys and tags, of which there are so many, as values."""
    if not isinstance(thing, dict) or len(thing) != len(deeds):
        return False
    return all([deed in thing and is_integer(thing[deed], 0, many - 1) for deed in deeds])


def tags_covered(setting, stands, tags):
    """What check_tags tells of what has the form of a tag table, and what cover_tags tells of it if it is right."""
    steps, moves = tags
    deeds = setting.deeds
    # A right table has at least as many records as the least table.
    least = least_table(setting, len(stands))
    found, origins, leads = explored(0, len(deeds), lambda tag, k: steps[tag][deeds[k]])
    words = ways_of(origins, deeds)
    meant = [no_move(least)]
    for before, k in origins[1:]:
        meant.append(joined(meant[before], least[2][deeds[k]]))
    record = stray(stands, moves[0], meant[0])
    if record is not None:
        return ("wrong", (), record), None
    # If no tag goes wrong behind the word of a tag and one more deed, then none does behind any deeds.
    for word, move, line in zip(words, meant, leads):
        for deed, place in zip(deeds, line):
            record = stray(stands, moves[found[place]], joined(move, least[2][deed]))
            if record is not None:
                return ("wrong", (*word, deed), record), None
    own_moves, _, _ = tags_found(setting, least)
    numbers = {move: tag for tag, move in enumerate(own_moves)}
    covers = {tag: numbers[move] for tag, move in zip(found, meant)}
    return None, tuple([covers.get(tag) for tag in range(len(steps))])


def stray(stands, line, meant):
    """The first reached record that a tag leads elsewhere than is meant for the one it stands for, or None."""
    for record, stand in enumerate(stands):
        if stand is not None and stands[line[record]] != meant[stand]:
            return record
    return None


def cover_tags(setting, table, tags):
    """The tags of the setting for which the tags of a right tag table stand, None for those not reached."""
    stands = cover(setting, table)
    problem = form_problem(setting, len(stands), tags)
    if problem is not None:
        raise InvalidTags(problem)
    wrong, covers = tags_covered(setting, stands, tags)
    if wrong is not None:
        raise InvalidTags(wrong)
    return covers
