"""Tables: what they are, whether they are right, and expressions that are worked out in them."""

from lazytags.checks import is_line
from lazytags.covering import covered
from lazytags.errors import InvalidTable
from lazytags.recipes import need_recipe, recipe_answer, recipe_of, recipe_record, recipe_row
from lazytags.settings import need_ask, need_setting


def check_table(setting, thing):
    """None if thing is a table of the setting, otherwise its first problem."""
    need_setting(setting)
    if not has_table_form(thing):
        return ("form",)
    ones, joins, moves, answers = thing
    many = len(joins)
    if not is_line(ones, setting.size, many):
        return ("ones",)
    for record, line in enumerate(joins):
        if not is_line(line, many, many):
            return ("joins", record)
    name = first_wrong(moves, list(setting.deeds), many, many)
    if name is not None:
        return ("moves", name)
    name = first_wrong(answers, list(setting.asks), many, 100)
    if name is not None:
        return ("answers", name)
    return None


def has_table_form(thing):
    """Whether thing is a tuple of two tuples and two dicts, the second one with at least one item."""
    if not isinstance(thing, tuple) or len(thing) != 4:
        return False
    ones, joins, moves, answers = thing
    if not isinstance(ones, tuple) or not isinstance(joins, tuple) or len(joins) == 0:
        return False
    return isinstance(moves, dict) and isinstance(answers, dict)


def first_wrong(lines, names, many, bound):
    """The least string that is a name or a key, but not both, or whose line is not one; None if there is none."""
    for name in sorted(names + [key for key in lines if key not in names]):
        if name not in names or name not in lines or not is_line(lines[name], many, bound):
            return name
    return None


def need_table(setting, table):
    """Raises InvalidTable if table is not a table of the setting."""
    problem = check_table(setting, table)
    if problem is not None:
        raise InvalidTable(problem)


def check_records(setting, thing):
    """None if thing is a right table of the setting, otherwise a problem."""
    problem = check_table(setting, thing)
    if problem is not None:
        return problem
    wrong, _ = covered(setting, thing)
    return wrong


def check_wrong(setting, table, ask, recipe):
    """Whether the answer that a table gives for the record of a recipe is wrong."""
    need_setting(setting)
    need_table(setting, table)
    need_ask(setting, ask)
    need_recipe(setting, recipe)
    return table[3][ask][recipe_record(table, recipe)] != recipe_answer(setting, ask, recipe)


def row_of(setting, expression):
    """The row of an expression."""
    need_setting(setting)
    return recipe_row(setting, recipe_of(setting, expression))


def worked(setting, table, expression):
    """The record of an expression in a table."""
    need_setting(setting)
    need_table(setting, table)
    return recipe_record(table, recipe_of(setting, expression))


def cover(setting, table):
    """The records of the least table for which the records of a right table stand, None for those not reached."""
    need_table(setting, table)
    wrong, stands = covered(setting, table)
    if wrong is not None:
        raise InvalidTable(wrong)
    return stands
