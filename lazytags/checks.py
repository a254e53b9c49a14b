"""Whether things are what arguments are called: integers, rows, maps, names."""


def is_integer(thing, low, high):
    """Whether thing is an integer from low to high (True and False are none)."""
    return isinstance(thing, int) and not isinstance(thing, bool) and low <= thing <= high


def is_size(thing):
    """Whether thing may be the size of a setting or a machine."""
    return is_integer(thing, 1, 4)


def is_row(thing, size):
    """Whether thing is a row of the values below size."""
    return isinstance(thing, tuple) and all([is_integer(value, 0, size - 1) for value in thing])


def is_line(thing, many, bound):
    """Whether thing is a tuple of just so many integers from 0 to bound - 1."""
    return is_row(thing, bound) and len(thing) == many


def is_map(thing, size):
    """Whether thing is a map of the values below size."""
    return is_line(thing, size, size)


def is_name(thing):
    """Whether thing may be the name of a map or an ask."""
    if not isinstance(thing, str) or thing == "turn":
        return False
    return 1 <= len(thing) <= 8 and all(["a" <= letter <= "z" for letter in thing])
