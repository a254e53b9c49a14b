"""Expressions and recipes: what they are, and what their rows, records and answers are."""

from lazytags.checks import is_integer
from lazytags.errors import InvalidExpression, InvalidRecipe
from lazytags.growing import joined, no_map


def is_made(thing, size, deeds):
    """Whether thing is an expression or an item of a recipe, whatever it says that it is made of."""
    if not isinstance(thing, tuple):
        return False
    if len(thing) == 1:
        return thing[0] == "empty"
    if len(thing) == 2:
        return thing[0] == "value" and is_integer(thing[1], 0, size - 1)
    if len(thing) == 3:
        return thing[0] == "join" or (thing[0] == "deed" and thing[1] in deeds)
    return False


def made_of(part):
    """The one or two things that an expression or an item of a recipe is made of, or none."""
    if part[0] == "join":
        return part[1:]
    if part[0] == "deed":
        return part[2:]
    return ()


def made_anew(part, inner):
    """An expression or an item of a recipe that is made in the same way of other things."""
    if part[0] == "join":
        return ("join", *inner)
    if part[0] == "deed":
        return ("deed", part[1], *inner)
    return part


def need_recipe(setting, thing):
    """Raises InvalidRecipe if thing is not a recipe."""
    if not isinstance(thing, tuple) or len(thing) == 0:
        raise InvalidRecipe(thing)
    size = setting.size
    deeds = setting.deeds
    for place, item in enumerate(thing):
        if not is_made(item, size, deeds):
            raise InvalidRecipe(thing)
        if not all([is_integer(number, 0, place - 1) for number in made_of(item)]):
            raise InvalidRecipe(thing)


def parts_of(setting, expression):
    """The list of the parts of an expression, each before those that it is made of. Raises InvalidExpression."""
    size = setting.size
    deeds = setting.deeds
    parts = []
    waiting = [expression]
    while waiting:
        part = waiting.pop()
        if not is_made(part, size, deeds):
            raise InvalidExpression(expression)
        parts.append(part)
        waiting.extend(made_of(part))
    return parts


def recipe_of(setting, expression):
    """The recipe of an expression, with an item for each of its parts. Raises InvalidExpression."""
    parts = parts_of(setting, expression)
    # Each part stands before those that it is made of, and those of its first one come last: backwards, the parts
    # of each part are the last ones that were done and not yet used.
    recipe = []
    done = []
    for part in reversed(parts):
        many = len(made_of(part))
        inner = done[len(done) - many:]
        done = done[:len(done) - many] + [len(recipe)]
        recipe.append(made_anew(part, inner))
    return tuple(recipe)


def pruned(items, number):
    """The recipe of the item with this number: of the items only those on which it rests."""
    needed = {number: True}
    for place in range(number, -1, -1):
        if place in needed:
            for inner in made_of(items[place]):
                needed[inner] = True
    places = sorted(needed)
    numbers = {place: k for k, place in enumerate(places)}
    return tuple([made_anew(items[place], [numbers[k] for k in made_of(items[place])]) for place in places])


def item_record(table, records, item):
    """The record of an item of a recipe, given those of the earlier items."""
    ones, joins, moves, _ = table
    if item[0] == "empty":
        return 0
    if item[0] == "value":
        return ones[item[1]]
    if item[0] == "join":
        return joins[records[item[1]]][records[item[2]]]
    return moves[item[1]][records[item[2]]]


def recipe_record(table, recipe):
    """The record of a recipe."""
    records = []
    for item in recipe:
        records.append(item_record(table, records, item))
    return records[-1]


def recipe_row(setting, recipe):
    """The row of a recipe."""
    rows = []
    for item in recipe:
        inner = [rows[number] for number in made_of(item)]
        if item[0] == "empty":
            rows.append(())
        elif item[0] == "value":
            rows.append((item[1],))
        elif item[0] == "join":
            rows.append(inner[0] + inner[1])
        else:
            rows.append(setting.after((item[1],), inner[0]))
    return rows[-1]


def recipe_answer(setting, ask, recipe):
    """The answer of an ask on the row of a recipe, also if the row is far too long to be made."""
    start, steps, answers = setting.asks[ask]
    maps = setting.maps
    leads = []
    for item, ways in zip(recipe, ways_needed(setting, recipe)):
        leads.append({way: item_leads(steps, maps, leads, item, way) for way in ways})
    return answers[leads[-1][(no_map(setting), False)][start]]


def ways_needed(setting, recipe):
    """For each item a dict of the ways to read its row that are needed to read the row of the last one as it is.

    A way is a pair (mapping, around): each value is replaced by the mapping, and around tells whether the row is
    read from its end.
    """
    maps = setting.maps
    ways = [{} for _ in recipe]
    ways[-1][(no_map(setting), False)] = True
    for place in range(len(recipe) - 1, -1, -1):
        item = recipe[place]
        further = [way_within(maps, item, way) for way in ways[place]]
        for number in made_of(item):
            for way in further:
                ways[number][way] = True
    return ways


def way_within(maps, item, way):
    """The way to read what an item is made of, if the item is read in this way."""
    if item[0] != "deed":
        return way
    mapping, around = way
    if item[1] == "turn":
        return (mapping, not around)
    return (joined(maps[item[1]], mapping), around)


def item_leads(steps, maps, leads, item, way):
    """Where the row of an item, read in this way, leads from each state, given the same of the earlier items."""
    if item[0] == "empty":
        return tuple(range(len(steps)))
    mapping, around = way
    if item[0] == "value":
        return tuple([line[mapping[item[1]]] for line in steps])
    inner = [leads[number][way_within(maps, item, way)] for number in made_of(item)]
    if item[0] == "deed":
        return inner[0]
    if around:
        return joined(inner[1], inner[0])
    return joined(inner[0], inner[1])
