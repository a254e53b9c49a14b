"""Settings written as strings, and read from them."""

from lazytags.checks import is_name
from lazytags.errors import Unreadable
from lazytags.settings import Setting, need_setting


def written(setting):
    """The string of a setting."""
    need_setting(setting)
    lines = ["size " + str(setting.size)]
    if setting.turning:
        lines.append("turning")
    for name, mapping in setting.maps.items():
        lines.append(" ".join(["map", name] + [str(value) for value in mapping]))
    for name, machine in setting.asks.items():
        lines.append(" ".join(["ask", name] + written_machine(machine)))
    return "\n".join(lines)


def written_machine(machine):
    """The list of the words in which a machine is written."""
    start, steps, answers = machine
    words = [str(start)]
    for line, told in zip(steps, answers):
        words.append(",".join([str(state) for state in line]) + ":" + str(told))
    return words


def read(text):
    """The setting that a string writes."""
    if not isinstance(text, str):
        raise Unreadable(0)
    lines = text.split("\n")
    sizes = {"size " + str(size): size for size in range(1, 5)}
    if lines[0] not in sizes:
        raise Unreadable(1)
    size = sizes[lines[0]]
    turning = lines[1:2] == ["turning"]
    before = 2 if turning else 1
    maps = {}
    asks = {}
    # What is written of a setting is that of another one, too, if lines at its end are left out: so only what stands
    # in a line can be wrong, never that there are too few of them.
    for number, line in enumerate(lines[before:], start=before + 1):
        word, _, told = line.partition(" ")
        name, _, told = told.partition(" ")
        if word == "map" and not asks:
            can_stand = add_named(maps, name, read_map(told.split(" "), size))
        else:
            can_stand = word == "ask" and add_named(asks, name, read_machine(told.split(" "), size))
        if not can_stand:
            raise Unreadable(number)
    return Setting(size, maps, asks, turning)


def add_named(things, name, thing):
    """Adds a map or a machine to a dict, if it is one and its name stands behind all others. Returns whether it did."""
    if thing is None or not is_name(name) or name <= max(things, default=""):
        return False
    things[name] = thing
    return True


def read_map(words, size):
    """The map that words write, or None."""
    return read_numbers(words, size, numbers_below(size))


def read_machine(words, size):
    """The machine that words write, or None."""
    states = numbers_below(len(words) - 1)
    told = numbers_below(100)
    start = read_numbers(words[:1], 1, states)
    steps = []
    answers = []
    for word in words[1:]:
        line, _, last = word.partition(":")
        steps.append(read_numbers(line.split(","), size, states))
        answers.append(read_numbers([last], 1, told))
    if start is None or None in steps or None in answers:
        return None
    return (start[0], tuple(steps), tuple([answer[0] for answer in answers]))


def read_numbers(words, many, known):
    """The tuple of just so many known numbers that words write, or None."""
    if len(words) != many or not all([word in known for word in words]):
        return None
    return tuple([known[word] for word in words])


def numbers_below(bound):
    """A dict of the numbers below a bound, by what is written for them."""
    return {str(number): number for number in range(bound)}
