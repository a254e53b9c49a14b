"""Plans of deeds on ranges: what they do to rows, whether two of them do the same, and plans that are made."""

from lazytags.checks import is_integer, is_map
from lazytags.errors import InvalidForm, InvalidLength, InvalidPlan, NotMade
from lazytags.growing import grown, joined, map_words, no_map
from lazytags.ranges import is_range
from lazytags.settings import need_row, need_setting

MOST_PLACES = 60
MOST_TOLD = 40


def need_length(thing):
    """Raises InvalidLength if thing is not the length of rows for which there are plans."""
    if not is_integer(thing, 0, MOST_PLACES):
        raise InvalidLength(thing)


def need_plan(plan, length, deeds):
    """Raises InvalidPlan if plan is not a tuple or list of steps for a length with these deeds."""
    if not isinstance(plan, (tuple, list)):
        raise InvalidPlan(None)
    for place, step in enumerate(plan):
        if not is_step(step, length, deeds):
            raise InvalidPlan(place)


def need_plans(setting, plans, length):
    """Raises NotASetting, InvalidLength, then InvalidPlan for the first of these that is not a plan for the length."""
    need_setting(setting)
    need_length(length)
    for plan in plans:
        need_plan(plan, length, setting.deeds)


def is_step(thing, length, deeds):
    """Whether thing is a step for a length with one of these deeds."""
    if not isinstance(thing, tuple) or len(thing) != 3:
        return False
    deed, start, stop = thing
    return deed in deeds and is_range(start, stop, length)


def run(setting, plan, row):
    """The row after a plan for its length."""
    need_setting(setting)
    need_row(setting, row)
    need_plan(plan, len(row), setting.deeds)
    return tuple([mapping[row[source]] for source, mapping in cells_after(setting, plan, len(row))])


def cells_after(setting, plan, length):
    """The list of the pairs (source, mapping) of all places after a plan, also with the sources of constant maps."""
    maps = setting.maps
    cells = [(place, no_map(setting)) for place in range(length)]
    for deed, start, stop in plan:
        if deed == "turn":
            cells[start:stop] = cells[start:stop][::-1]
        else:
            cells[start:stop] = [(source, joined(past, maps[deed])) for source, past in cells[start:stop]]
    return cells


def form_of(setting, plan, length):
    """The form of a plan."""
    need_plans(setting, [plan], length)
    return form_after(setting, plan, length)


def form_after(setting, plan, length):
    """The form of what surely is a plan."""
    cells = cells_after(setting, plan, length)
    return tuple([(None if is_constant(mapping) else source, mapping) for source, mapping in cells])


def is_constant(mapping):
    """Whether all values of a map are equal."""
    return mapping == mapping[:1] * len(mapping)


def plans_parted(setting, plan, other, length):
    """None if two plans do the same to each row of a length, otherwise the least row that tells them apart."""
    need_plans(setting, [plan, other], length)
    rows = []
    # One place that differs is enough, and it hangs on one or two values: the others are 0 in the least row.
    for cell, other_cell in zip(cells_after(setting, plan, length), cells_after(setting, other, length)):
        rows.extend(rows_parting(cell, other_cell, length))
    return min(rows, default=None)


def rows_parting(cell, other, length):
    """The list of the rows, of zeros but at their sources, that two pairs (source, mapping) tell apart."""
    source, mapping = cell
    other_source, other_mapping = other
    rows = []
    for value, worth in enumerate(mapping):
        for other_value, other_worth in enumerate(other_mapping):
            if worth != other_worth and (source != other_source or value == other_value):
                row = [0] * length
                row[source] = value
                row[other_source] = other_value
                rows.append(tuple(row))
    return rows


def idle(setting, plan, length):
    """The list of the numbers of the steps each of which can be left out."""
    need_plans(setting, [plan], length)
    steps = list(plan)
    return like_plans(setting, steps, [steps[:k] + steps[k + 1:] for k in range(len(steps))], length)


def swaps(setting, plan, length):
    """The list of the numbers of the steps each of which can be exchanged with the next one."""
    need_plans(setting, [plan], length)
    steps = list(plan)
    swapped = [[*steps[:k], steps[k + 1], steps[k], *steps[k + 2:]] for k in range(len(steps) - 1)]
    return like_plans(setting, steps, swapped, length)


def like_plans(setting, plan, others, length):
    """The list of the numbers of those of the other plans that have the form of a plan."""
    form = form_after(setting, plan, length)
    return [k for k, other in enumerate(others) if form_after(setting, other, length) == form]


def plans_told(setting, plan, other, length):
    """None if two plans without turn make each row the same, otherwise the least row of the length that tells."""
    need_setting(setting)
    need_length(length)
    need_plan(plan, length, list(setting.maps))
    need_plan(other, length, list(setting.maps))
    _, nexts = grown(setting, MOST_TOLD)
    # Without turns each value stays at its place. The least way to each pair of records is found place by place;
    # the pairs stand in the order of these ways, so the first way to a pair is its least one.
    ways = {(0, 0): ()}
    for cell, other_cell in zip(cells_after(setting, plan, length), cells_after(setting, other, length)):
        further = {}
        for (record, other_record), row in ways.items():
            for value in range(setting.size):
                pair = (nexts[record][cell[1][value]], nexts[other_record][other_cell[1][value]])
                if pair not in further:
                    further[pair] = (*row, value)
        ways = further
    return min([row for (record, other_record), row in ways.items() if record != other_record], default=None)


def plan_of(setting, form):
    """A plan that has a form."""
    need_setting(setting)
    if not is_form(form, setting.size):
        raise InvalidForm(form)
    words = map_words(setting)
    for place, (source, mapping) in enumerate(form):
        if mapping not in words:
            raise NotMade(place)
        if source is not None and source != place and not setting.turning:
            raise NotMade(place)
    steps = turns_to(all_sources(form))
    for place, (_, mapping) in enumerate(form):
        for deed in words[mapping]:
            steps.append((deed, place, place + 1))
    return tuple(steps)


def is_form(thing, size):
    """Whether thing may be the form of a plan."""
    if not isinstance(thing, tuple) or len(thing) > MOST_PLACES:
        return False
    if not all([is_cell(cell, len(thing), size) for cell in thing]):
        return False
    sources = [source for source, _ in thing if source is not None]
    return len(set(sources)) == len(sources)


def is_cell(thing, length, size):
    """Whether thing is a pair (source, mapping) as it stands in forms for a length."""
    if not isinstance(thing, tuple) or len(thing) != 2:
        return False
    source, mapping = thing
    if not is_map(mapping, size):
        return False
    if is_constant(mapping):
        return source is None
    return is_integer(source, 0, length - 1)


def all_sources(form):
    """The sources of a form, where the values that no place needs go to the places with constant maps."""
    taken = [source for source, _ in form]
    free = [place for place in range(len(form)) if place not in taken]
    sources = []
    for source, _ in form:
        # The first free one first: without turns, each place that needs none gets its own value.
        sources.append(free.pop(0) if source is None else source)
    return sources


def turns_to(sources):
    """The list of the turns that bring the values from their sources to the places where these stand."""
    steps = []
    now = list(range(len(sources)))
    for place, source in enumerate(sources):
        at = now.index(source)
        if at > place:
            steps.append(("turn", place, at + 1))
            now[place:at + 1] = now[place:at + 1][::-1]
    return steps
