"""Trees: planted ones, trees that are split, deeds that are done late, neat trees, and the pieces of a range."""

from lazytags.checks import is_integer
from lazytags.errors import InvalidLength
from lazytags.exploring import ways_of
from lazytags.ranges import need_place, need_range
from lazytags.recipes import made_anew, made_of, parts_of, recipe_of
from lazytags.records import least_records
from lazytags.settings import need_deed, need_row, need_setting
from lazytags.tags import MOST_TAGS, tags_found

EMPTY = ("empty",)
MOST_VALUES = 200


def planted(setting, row):
    """The planted tree of a row."""
    need_setting(setting)
    need_row(setting, row)
    return planted_of(row)


def planted_of(row):
    """The planted tree of what surely is a row."""
    if len(row) == 0:
        return EMPTY
    if len(row) == 1:
        return ("value", row[0])
    middle = len(row) // 2
    return ("join", planted_of(row[:middle]), planted_of(row[middle:]))


def split(setting, tree, place):
    """The two trees into which a tree is split at a place."""
    need_setting(setting)
    many = many_values(parts_of(setting, tree))
    need_place(place, many)
    return split_at(tree, many, place)


def many_values(parts):
    """The number of the values of a tree, given all its parts."""
    return len([part for part in parts if part[0] == "value"])


def values_within(tree):
    """The number of the values of what surely is a tree."""
    parts = []
    waiting = [tree]
    while waiting:
        part = waiting.pop()
        parts.append(part)
        waiting.extend(made_of(part))
    return many_values(parts)


def split_at(tree, many, place):
    """The two trees into which what surely is a tree of so many values is split."""
    if place == 0:
        return EMPTY, tree
    if place == many:
        return tree, EMPTY
    return split_between(tree, many, place)


def split_between(tree, many, place):
    """What split_at tells where there are values on both sides of the place."""
    if tree[0] == "deed":
        _, deed, inner = tree
        if deed == "turn":
            behind, ahead = split_between(inner, many, many - place)
        else:
            ahead, behind = split_between(inner, many, place)
        return ("deed", deed, ahead), ("deed", deed, behind)
    _, one, two = tree
    middle = values_within(one)
    if place < middle:
        ahead, behind = split_between(one, middle, place)
        return ahead, ("join", behind, two)
    if place > middle:
        ahead, behind = split_between(two, many - middle, place - middle)
        return ("join", one, ahead), behind
    return one, two


def late(setting, tree, deed, start, stop):
    """The tree after a deed was done late on a range."""
    need_setting(setting)
    many = many_values(parts_of(setting, tree))
    need_deed(setting, deed)
    need_range(start, stop, many)
    if start == stop:
        return tree
    before, others = split_at(tree, many, start)
    within, behind = split_at(others, many - start, stop - start)
    after = ("deed", deed, within)
    if start > 0:
        after = ("join", before, after)
    if stop < many:
        after = ("join", after, behind)
    return after


def neat(setting, tree):
    """The tree made neat."""
    need_setting(setting)
    recipe = recipe_of(setting, tree)
    _, origins, leads = tags_found(setting, least_records(setting), MOST_TAGS)
    deeds = setting.deeds
    words = ways_of(origins, deeds)
    # For each item the neat tree below the pile that ends with it, and the tag of the deeds of this pile so far.
    done = []
    for item in recipe:
        inner = [done[number] for number in made_of(item)]
        if item[0] == "deed":
            core, tag = inner[0]
            done.append((core, leads[tag][deeds.index(item[1])]))
        else:
            done.append((made_anew(item, piled_all(inner, words)), 0))
    return piled_all(done[-1:], words)[0]


def piled_all(pairs, words):
    """The list of the trees that pairs of a tree and the tag of the deeds upon it tell."""
    return [piled(tree, words[tag]) for tree, tag in pairs]


def piled(tree, deeds):
    """The tree with deeds upon it, the first of them innermost."""
    for deed in deeds:
        tree = ("deed", deed, tree)
    return tree


def pieces(length, start, stop):
    """The list of the ranges of the pieces of a range of a row of this length."""
    if not is_integer(length, 0, MOST_VALUES):
        raise InvalidLength(length)
    need_range(start, stop, length)
    return pieces_between(0, length, start, stop)


def pieces_between(low, high, start, stop):
    """Those pieces of a range that lie in the part of the planted tree with the values from low to high - 1."""
    if stop <= low or high <= start:
        return []
    if start <= low and high <= stop:
        return [(low, high)]
    middle = low + (high - low) // 2
    return pieces_between(low, middle, start, stop) + pieces_between(middle, high, start, stop)
