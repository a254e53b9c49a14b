"""Calls of all functions of the interface, each with arguments that are made anew, and what they tell."""

import inspect
import random

from lazytags import errors
from lazytags.kept import Kept
from lazytags.machines import answer, check_machine, least_machine, machines_parted, mapped, turned
from lazytags.needs import check_unfree, check_untold, enough, enough_deeds, unfree, untold
from lazytags.partings import check_parting, in_context, parted
from lazytags.plans import form_of, idle, plan_of, plans_parted, plans_told, run, swaps
from lazytags.records import least_records, least_rows, record_of, same_values
from lazytags.settings import Setting
from lazytags.tables import check_records, check_table, check_wrong, cover, row_of, worked
from lazytags.tags import check_tags, cover_tags, deeds_parted, least_tags, tag_of, tag_words
from lazytags.trees import late, neat, pieces, planted, split
from lazytags.writing import read, written
from tests.makers import LAST, NEST, ODD, cycle, one_between

FUNCTIONS = [
    check_machine, answer, least_machine, machines_parted, mapped, turned, Setting, least_records, least_rows, record_of,
    same_values, check_table, check_records, check_wrong, row_of, worked, cover, in_context, parted, check_parting,
    least_tags, tag_words, tag_of, deeds_parted, check_tags, cover_tags, run, form_of, plans_parted, idle, swaps, plans_told,
    plan_of, planted, split, late, neat, pieces, untold, check_untold, enough, unfree, check_unfree, enough_deeds, Kept,
    written, read,
]


def after(setting, deeds, row):
    return setting.after(deeds, row)


def answer_of(setting, ask, row):
    return setting.answer(ask, row)


def without_ask(setting, name):
    return setting.without_ask(name)


def without_deed(setting, name):
    return setting.without_deed(name)


def properties(setting):
    return [setting.size, setting.maps, setting.asks, setting.turning, setting.deeds]


METHODS = [after, answer_of, without_ask, without_deed, properties]


def maps_made():
    return {"one": (1, 1), "flip": (1, 0)}


def asks_made():
    return {"odd": ODD, "last": LAST}


def setting_made():
    return Setting(2, maps_made(), asks_made(), True)


def plain_setting_made():
    return Setting(2, {"flip": (1, 0)}, {"odd": ODD})


def rich_setting_made():
    return Setting(2, {"flip": (1, 0)}, {"a": cycle(25, 2), "b": cycle(13, 2)}, True)


def tree_made():
    inner = ("deed", "flip", ("deed", "turn", ("join", ("value", 0), ("join", ("value", 1), ("empty",)))))
    return ("join", ("deed", "one", inner), ("deed", "turn", ("join", ("value", 0), inner)))


def wrong_table_made(setting):
    ones, joins, moves, answers = least_records(setting)
    return (ones, joins, dict(moves), {name: tuple(1 - told % 2 for told in line) for name, line in answers.items()})


def calls_made():
    """The list of the pairs of a function and its arguments. Each time all is made anew, and no arguments are shared."""
    made = []

    def add(function, *arguments):
        made.append((function, arguments))

    add(check_machine, ODD, 2)
    add(check_machine, (0, [(0, 1)], (0,)), 2)
    add(check_machine, ODD, 7)
    add(answer, ODD, (1, 0, 1))
    add(answer, LAST, [1, 0])
    add(least_machine, one_between(2, 3))
    add(machines_parted, ODD, LAST)
    add(mapped, LAST, (1, 0, 1))
    add(turned, LAST)
    add(turned, LAST[:2])
    add(Setting, 2, maps_made(), asks_made(), True)
    add(Setting, 2, {**maps_made(), "a": [0, 1]}, asks_made(), True)
    add(Setting, 2, None, {"a": ODD, "b": ODD[:2]})
    for make in [setting_made, plain_setting_made, rich_setting_made]:
        add_row_calls(add, make)
        add_plan_calls(add, make)
        for function in [least_records, least_rows, same_values, least_tags, tag_words, enough, enough_deeds, written, properties]:
            add(function, make())
    for make in [setting_made, plain_setting_made]:
        add_table_calls(add, make)
    for arguments in [(7, 2, 6), (200, 3, 200), (0, 0, 0), (5, 4, 3), (201, 0, 0)]:
        add(pieces, *arguments)
    for text in [written(setting_made()), "size 2\nturning\nmap a 1 0", "size 2\n\n", "", ["size 2"]]:
        add(read, text)
    return made


def add_row_calls(add, make):
    for row, other in [((0, 1, 1), (1, 0, 1)), ((), (0,)), ([0], (2,)), ((0, 1), [1])]:
        add(record_of, make(), row)
        add(parted, make(), row, other)
        add(check_parting, make(), row, other, ("odd", (), ("flip",), (1,)))
        add(planted, make(), row)
        add(Kept, make(), row)
        add(check_untold, make(), "odd", (row, other))
        add(check_untold, make(), "a", (row, other))
        add(check_unfree, make(), "flip", (row, other))
    for deeds in [["flip", "turn", "flip"], ("flip",), [], ["turn", "no"]]:
        add(tag_of, make(), deeds)
        add(deeds_parted, make(), deeds, ["flip"])
        add(after, make(), deeds, (0, 0, 1))
    for tree in [tree_made(), ("deed", "flip", ("deed", "flip", ("value", 1))), ("join", ("value", 0), [])]:
        add(row_of, make(), tree)
        add(neat, make(), tree)
        for place in [0, 2, 9]:
            add(split, make(), tree, place)
            add(late, make(), tree, "flip", 1, place)
    for name in ["odd", "a", "flip", "turn", ["odd"]]:
        add(untold, make(), name)
        add(unfree, make(), name)
        add(without_ask, make(), name)
        add(without_deed, make(), name)
        add(answer_of, make(), name, (0, 1, 1))
        add(in_context, make(), (name, (1,), ("flip",), ()), (0, 0))


def add_plan_calls(add, make):
    plan = [("flip", 0, 1), ("turn", 1, 2), ("flip", 1, 2), ("turn", 0, 2)]
    for steps in [plan, tuple(plan[::2]), [], [("flip", 0, 3)], {"a": plan}]:
        add(run, make(), list(steps), (0, 1))
        add(form_of, make(), steps, 2)
        add(plans_parted, make(), list(plan[2:3]), steps, 2)
        add(plans_told, make(), list(plan[2:3]), steps, 2)
        add(idle, make(), steps, 2)
        add(swaps, make(), steps, 2)
    for form in [((1, (1, 0)), (0, (0, 1))), ((0, (1, 0)),), (), ((None, (0, 0)),), [(0, (1, 0))]]:
        add(plan_of, make(), form)


def add_table_calls(add, make):
    stretched = tuple(tuple(line) for line in least_records(make())[1])
    for table in [least_records(make()), wrong_table_made(make()), (), ((0, 0), stretched, {}, {})]:
        for function in [check_table, check_records, cover]:
            add(function, make(), table)
        add(worked, make(), table, tree_made())
        add(worked, make(), table, ("deed", "flip", ("join", ("value", 0), ("value", 1))))
        add(check_wrong, make(), table, "odd", (("value", 0), ("join", 0, 0)))
        for tags in [least_tags(make()), ({}, ()), (({},), ((0, 1),))]:
            add(check_tags, make(), table, tags)
            add(cover_tags, make(), table, tags)


def outcome(function, arguments):
    """What a call tells, or the error that it raises with what it holds, as things that can be compared."""
    try:
        return ("told", function(*arguments))
    except errors.LazyError as error:
        return ("raised", error.__class__.__name__, vars(error))


def shown(thing):
    """The same for a thing that is told, as a string that does not hang on the order of the keys of dicts."""
    if isinstance(thing, Setting):
        return "Setting(" + repr(written(thing)) + ")"
    if isinstance(thing, Kept):
        return "Kept(" + repr(thing.row()) + ")"
    if isinstance(thing, dict):
        return "{" + ", ".join(f"{key!r}: {shown(thing[key])}" for key in sorted(thing)) + "}"
    if isinstance(thing, (tuple, list)):
        return thing.__class__.__name__ + "(" + ", ".join(shown(item) for item in thing) + ")"
    return repr(thing)


def spoil(thing):
    """Changes each list and each dict within what was told."""
    if isinstance(thing, Kept):
        thing.put(0, (0,))
    if isinstance(thing, (tuple, list)):
        for item in thing:
            spoil(item)
    if isinstance(thing, dict):
        for item in thing.values():
            spoil(item)
        thing["spoilt"] = [1]
    if isinstance(thing, list):
        thing.reverse()
        thing.append("spoilt")


def holders(thing):
    """The lists and dicts within a thing, and the thing itself if it is one, by their places in memory."""
    found = {id(thing): thing} if isinstance(thing, (list, dict)) else {}
    if isinstance(thing, (tuple, list)):
        for item in thing:
            found.update(holders(item))
    if isinstance(thing, dict):
        for item in thing.values():
            found.update(holders(item))
    return found


def turned_round(thing):
    """An equal thing, but the keys of each dict stand the other way round."""
    if isinstance(thing, dict):
        return {key: turned_round(thing[key]) for key in reversed(list(thing))}
    if isinstance(thing, (tuple, list)):
        return thing.__class__([turned_round(item) for item in thing])
    return thing


def anything(rng, depth=4):
    """A thing as an argument may be where an error is stated."""
    kind = rng.randrange(12 if depth > 0 else 7)
    if kind < 7:
        return [
            None, rng.random() < 0.5, rng.randint(-2, 5), rng.choice([10 ** 99, -10 ** 99, 99, 100, 60]),
            rng.choice(["", "odd", "flip", "turn", "empty", "value", "join", "deed", "a", "~ \n"]), NEST, setting_made(),
        ][kind]
    items = [anything(rng, depth - 1) for _ in range(rng.randrange(5))]
    if kind < 10:
        return tuple(items)
    if kind == 10:
        return items
    return {rng.choice(["odd", "flip", "turn", "", "last", "one", "~"]): item for item in items}


def parameters(function):
    return list(inspect.signature(function).parameters)


if __name__ == "__main__":
    for call in random.Random(1).sample(calls_made(), len(calls_made())):
        print(call[0].__name__, shown(call[1]), shown(outcome(*call)))
