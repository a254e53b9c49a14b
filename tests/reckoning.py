"""Slow but plain ways to judge what is told of tables, tags and plans, and tables that are made from others."""

from tests.makers import plain_answer, plain_effects, rows_of_length


def recipe_told(setting, table, ask, recipe):
    """The answer that a table gives for a recipe, and the one that is due, worked out for all effects of deeds."""
    start, steps, answers = setting.asks[ask]
    states = range(len(steps))
    effects = plain_effects(setting)
    leads, records = [], []
    for item in recipe:
        if item[0] == "empty":
            leads.append({effect: tuple(states) for effect in effects})
            records.append(0)
        elif item[0] == "value":
            leads.append({effect: tuple(steps[state][effect[0][item[1]]] for state in states) for effect in effects})
            records.append(table[0][item[1]])
        elif item[0] == "join":
            told = {}
            for effect in effects:
                one, two = leads[item[1]][effect], leads[item[2]][effect]
                told[effect] = tuple(one[two[state]] if effect[1] else two[one[state]] for state in states)
            leads.append(told)
            records.append(table[1][records[item[1]]][records[item[2]]])
        else:
            inner, records_before = leads[item[2]], records[item[2]]
            if item[1] == "turn":
                leads.append({(mapping, around): inner[(mapping, not around)] for mapping, around in effects})
            else:
                own = setting.maps[item[1]]
                leads.append({(m, around): inner[(tuple(m[value] for value in own), around)] for m, around in effects})
            records.append(table[2][item[1]][records_before])
    due = answers[leads[-1][(tuple(range(setting.size)), False)][start]]
    return table[3][ask][records[-1]], due


def expression_of(recipe):
    """The expression of a short recipe."""
    told = []
    for item in recipe:
        if item[0] == "join":
            told.append(("join", told[item[1]], told[item[2]]))
        elif item[0] == "deed":
            told.append(("deed", item[1], told[item[2]]))
        else:
            told.append(item)
    return told[-1]


def plain_row(setting, expression):
    """The row of an expression that is not deep."""
    if expression[0] == "empty":
        return ()
    if expression[0] == "value":
        return (expression[1],)
    if expression[0] == "join":
        return plain_row(setting, expression[1]) + plain_row(setting, expression[2])
    row = plain_row(setting, expression[2])
    return row[::-1] if expression[1] == "turn" else tuple(setting.maps[expression[1]][value] for value in row)


def plain_record(table, expression):
    """The record of an expression that is not deep."""
    if expression[0] == "empty":
        return 0
    if expression[0] == "value":
        return table[0][expression[1]]
    if expression[0] == "join":
        return table[1][plain_record(table, expression[1])][plain_record(table, expression[2])]
    return table[2][expression[1]][plain_record(table, expression[2])]


def random_expression(rng, setting, parts):
    """An expression with at most so many parts."""
    if parts < 3 or rng.random() < 0.1:
        if parts > 1 and setting.deeds:
            return ("deed", rng.choice(setting.deeds), random_expression(rng, setting, parts - 1))
        return rng.choice([("empty",), *[("value", value) for value in range(setting.size)]])
    if rng.random() < 0.4 and setting.deeds:
        return ("deed", rng.choice(setting.deeds), random_expression(rng, setting, parts - 1))
    left = rng.randint(1, parts - 2)
    return ("join", random_expression(rng, setting, left), random_expression(rng, setting, parts - 1 - left))


def random_recipe(rng, setting, items):
    """A recipe that stands for an expression with very many parts."""
    told = [("value", value) for value in range(setting.size)]
    while len(told) < items:
        late = range(max(0, len(told) - 6), len(told))
        if rng.random() < 0.5 or not setting.deeds:
            told.append(("join", rng.choice(late), rng.choice(late)))
        else:
            told.append(("deed", rng.choice(setting.deeds), rng.choice(late)))
    return tuple(told[:items])


def random_table(rng, setting, many):
    def line(length, bound):
        return tuple(rng.randrange(bound) for _ in range(length))

    joins = tuple(line(many, many) for _ in range(many))
    moves = {deed: line(many, many) for deed in setting.deeds}
    return (line(setting.size, many), joins, moves, {ask: line(many, 2) for ask in setting.asks})


def blown(rng, table, more, junk):
    """A table with records doubled and records that are not reached, and what each record stands for."""
    ones, joins, moves, answers = table
    stands = [*range(1, len(joins)), *[rng.randrange(len(joins)) for _ in range(more)], *[None] * junk]
    rng.shuffle(stands)
    # Only the place of the record of the empty row is not free.
    stands = [0, *stands]
    records = range(len(stands))
    copies = {record: [k for k in records if stands[k] == record] for record in range(len(joins))}

    def pick(*places):
        """A copy of what stands at the place that is told, or anything if something there stands for nothing."""
        line = joins
        for place in places:
            if stands[place] is None:
                return rng.choice(records)
            line = line[stands[place]]
        return rng.choice(copies[line])

    def picked(line):
        return tuple(rng.choice(records) if stands[k] is None else rng.choice(copies[line[stands[k]]]) for k in records)

    return (
        tuple(rng.choice(copies[record]) for record in ones),
        tuple(tuple(pick(one, other) for other in records) for one in records),
        {deed: picked(line) for deed, line in moves.items()},
        {ask: tuple(rng.randrange(99) if stands[k] is None else line[stands[k]] for k in records)
         for ask, line in answers.items()},
    ), stands


def reached_records(table):
    ones, joins, moves, _ = table
    found = {0, *ones}
    while True:
        more = found | {joins[one][other] for one in found for other in found}
        more |= {line[one] for one in found for line in moves.values()}
        if more == found:
            return found
        found = more


def with_a_change(rng, table):
    """The table with another thing at one place, perhaps."""
    ones, joins, moves, answers = table
    many = len(joins)
    what = rng.randrange(4)
    if what == 0:
        ones = changed(rng, ones, many)
    elif what == 1:
        at = rng.randrange(many)
        joins = joins[:at] + (changed(rng, joins[at], many),) + joins[at + 1:]
    elif what == 2 and moves:
        name = rng.choice(sorted(moves))
        moves = {**moves, name: changed(rng, moves[name], many)}
    elif what == 3 and answers:
        name = rng.choice(sorted(answers))
        answers = {**answers, name: changed(rng, answers[name], 3)}
    return (ones, joins, moves, answers)


def changed(rng, line, bound):
    at = rng.randrange(len(line))
    return line[:at] + (rng.randrange(bound),) + line[at + 1:]


def plain_cover(plain, table):
    """What the reached records stand for, as a dict, or None if the table is not right."""
    setting = plain.setting
    ones, joins, moves, answers = table
    found = {}
    waiting = [(0, ()), *[(ones[value], (value,)) for value in range(setting.size)]]
    while waiting:
        record, row = waiting.pop()
        place = plain.place(row)
        if record in found:
            if found[record] != place:
                return None
            continue
        found[record] = place
        row = plain.rows[place]
        if any(line[record] != plain_answer(setting.asks[ask], row) for ask, line in answers.items()):
            return None
        for other, other_place in list(found.items()):
            waiting.append((joins[record][other], row + plain.rows[other_place]))
            waiting.append((joins[other][record], plain.rows[other_place] + row))
        for deed, line in moves.items():
            waiting.append((line[record], setting.after([deed], row)))
    return found


def plain_effect(plain, deeds):
    """What deeds make of each record of the least table."""
    return tuple(plain.place(plain.setting.after(deeds, row)) for row in plain.rows)


def blown_tags(rng, tags, stands, more, junk):
    """A right tag table for a right table, with tags doubled, renamed and not reached, and what each stands for."""
    steps, moves = tags
    meant = [*range(1, len(steps)), *[rng.randrange(len(steps)) for _ in range(more)], *[None] * junk]
    rng.shuffle(meant)
    meant = [0, *meant]
    copies = {tag: [k for k, own in enumerate(meant) if own == tag] for tag in range(len(steps))}
    records = {record: [k for k, own in enumerate(stands) if own == record] for record in range(len(moves[0]))}
    new_steps, new_moves = [], []
    for tag in meant:
        if tag is None:
            new_steps.append({deed: rng.randrange(len(meant)) for deed in steps[0]})
            new_moves.append(tuple(rng.randrange(len(stands)) for _ in stands))
        else:
            new_steps.append({deed: rng.choice(copies[further]) for deed, further in steps[tag].items()})
            new_moves.append(tuple(
                rng.randrange(len(stands)) if own is None else rng.choice(records[moves[tag][own]]) for own in stands
            ))
    return (tuple(new_steps), tuple(new_moves)), meant


def reached_tags(tags):
    found = [0]
    for tag in found:
        found.extend(further for further in set(tags[0][tag].values()) if further not in found)
    return found


def plain_run(setting, plan, row):
    for deed, start, stop in plan:
        row = row[:start] + setting.after([deed], row[start:stop]) + row[stop:]
    return row


def first_difference(setting, plan, other, length, kind=tuple):
    """The least row of a length of which two plans make rows of different kinds, or None."""
    for row in rows_of_length(setting.size, length):
        if kind(plain_run(setting, plan, row)) != kind(plain_run(setting, other, row)):
            return row
    return None


def random_plan(rng, deeds, length, most):
    if not deeds:
        return []
    plan = []
    for _ in range(rng.randint(0, most)):
        start = rng.randint(0, length)
        plan.append((rng.choice(deeds), start, rng.randint(start, length)))
    return plan
