"""What several tests need: made machines and settings, wrong things, and slow but plain ways to work things out."""

import itertools

from lazytags.settings import Setting

ODD = (0, ((0, 1), (1, 0)), (0, 1))
# The answer is the last value, or 9 for no values.
LAST = (0, ((1, 2), (1, 2), (1, 2)), (9, 0, 1))
FIRST = (0, ((1, 2), (1, 1), (2, 2)), (9, 0, 1))
NEST = ()
for _ in range(49):
    NEST = (NEST,)

# Things that are no setting, no machine, no row of one value, no size, no name, no map of a size other than 0.
WRONG_THINGS = [
    None, True, False, -1, 0, 5, 10 ** 99, "", "a", "turn", "a b~\n", [], [0], (0, True), (0, -1), (None,), {}, {"a": 1},
    (0, (0,)), NEST, [()] * 1999, Setting(1), (Setting(2),), {"size": 2},
]


def one_between(left, right):
    """A machine that answers 1 for the rows with a one that has just so many values before and behind it, 0 otherwise."""
    none = left + right + 2
    steps = [(at + 1, at + 1) for at in range(left)] + [(none, left + 1)]
    steps += [(at + 1, at + 1) for at in range(left + 1, left + right + 1)] + [(none, none)] * 2
    return (0, tuple(steps), (0,) * (left + right + 1) + (1, 0))


def shuffles(size):
    """A machine that never forgets: its values shuffle six states in ways whose order matters."""
    ways = [(1, 2, 0, 4, 5, 3), (3, 5, 4, 0, 2, 1), (3, 4, 5, 0, 1, 2), (0, 2, 1, 3, 5, 4)]
    return (0, tuple(tuple(ways[value][state] for value in range(size)) for state in range(6)), (0, 1, 2, 3, 4, 5))


def cycle(many, size=1):
    """A machine that counts all values, up to a number."""
    return (0, tuple(((state + 1) % many,) * size for state in range(many)), tuple(range(many)))


def tailed_cycle(tail, many):
    """A machine of size 1 that counts, at first without coming back."""
    steps = tuple((state + 1,) for state in range(tail + many - 1)) + ((tail,),)
    return (0, steps, tuple(range(tail + many)))


def random_machine(rng, states, size, answers):
    steps = tuple(tuple(rng.randrange(states) for _ in range(size)) for _ in range(states))
    return (rng.randrange(states), steps, tuple(rng.randrange(answers) for _ in range(states)))


def random_setting(rng, size, states):
    maps = {name: tuple(rng.randrange(size) for _ in range(size)) for name in rng.sample("abcd", rng.randint(0, 2))}
    asks = {
        name: random_machine(rng, rng.randint(1, states), size, rng.randint(1, 3))
        for name in rng.sample("abcd", rng.randint(0, 2))
    }
    return Setting(size, maps, asks, rng.random() < 0.5)


def rows_of_length(size, length):
    return itertools.product(range(size), repeat=length)


def rows_up_to(size, length):
    """All rows in their order."""
    return [row for many in range(length + 1) for row in rows_of_length(size, many)]


def plain_answer(machine, row):
    state, steps, answers = machine
    for value in row:
        state = steps[state][value]
    return answers[state]


def plain_least(machine):
    """The least machine, from the answers on all rows that are read from a state and are long enough."""
    start, steps, answers = machine
    size = len(steps[0])
    tails = rows_up_to(size, len(steps) - 1)

    def kind(state):
        return tuple(plain_answer((state, steps, answers), row) for row in tails)

    kinds, states = [kind(start)], [start]
    for row in rows_up_to(size, len(steps) - 1):
        state = start
        for value in row:
            state = steps[state][value]
        if kind(state) not in kinds:
            kinds.append(kind(state))
            states.append(state)
    least_steps = tuple(tuple(kinds.index(kind(target)) for target in steps[state]) for state in states)
    return (0, least_steps, tuple(answers[state] for state in states))


def plain_effects(setting):
    """The pairs (map, turned) that tuples of deeds come to."""
    found = [(tuple(range(setting.size)), False)]
    for mapping, around in found:
        more = [(tuple(own[value] for value in mapping), around) for own in setting.maps.values()]
        if setting.turning:
            more.append((mapping, not around))
        for effect in more:
            if effect not in found:
                found.append(effect)
    return found


class PlainRecords:
    """The least table of a small setting, from the answers in all contexts that are long enough."""

    def __init__(self, setting, most):
        self.setting = setting
        self.contexts = [
            (machine, left, mapping, around, right)
            for machine in setting.asks.values()
            for left in rows_up_to(setting.size, len(machine[1]) - 1)
            for mapping, around in plain_effects(setting)
            for right in rows_up_to(setting.size, max(0, len(machine[1]) - 2))
        ]
        self.rows = []
        self.places = {}
        self.known = {}
        length = 0
        grows = True
        while grows and len(self.rows) <= most:
            grows = False
            for row in rows_of_length(setting.size, length):
                if self.answers(row) not in self.places:
                    self.places[self.answers(row)] = len(self.rows)
                    self.rows.append(row)
                    grows = True
            length += 1

    def answers(self, row):
        if row not in self.known:
            told = []
            for machine, left, mapping, around, right in self.contexts:
                after = tuple(mapping[value] for value in row)
                told.append(plain_answer(machine, left + (after[::-1] if around else after) + right))
            self.known[row] = tuple(told)
        return self.known[row]

    def place(self, row):
        return self.places[self.answers(row)]

    def table(self):
        setting, rows = self.setting, self.rows
        ones = tuple(self.place((value,)) for value in range(setting.size))
        joins = tuple(tuple(self.place(one + other) for other in rows) for one in rows)
        moves = {
            name: tuple(self.place(tuple(mapping[value] for value in row)) for row in rows)
            for name, mapping in setting.maps.items()
        }
        if setting.turning:
            moves["turn"] = tuple(self.place(row[::-1]) for row in rows)
        answers = {name: tuple(plain_answer(machine, row) for row in rows) for name, machine in setting.asks.items()}
        return (ones, joins, moves, answers)

    def same_values(self):
        groups = {}
        for value in range(self.setting.size):
            groups.setdefault(self.answers((value,)), []).append(value)
        return list(groups.values())
