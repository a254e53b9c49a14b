"""Ranges of rows, and places in them."""

from lazytags.checks import is_integer
from lazytags.errors import InvalidRange


def is_range(start, stop, many):
    """Whether start and stop are a range of a row of so many values."""
    return is_integer(start, 0, many) and is_integer(stop, start, many)


def need_range(start, stop, many):
    """Raises InvalidRange if start and stop are not a range of a row of so many values."""
    if not is_range(start, stop, many):
        raise InvalidRange((start, stop))


def need_place(place, many):
    """Raises InvalidRange if place is not one before, between or behind so many values."""
    if not is_integer(place, 0, many):
        raise InvalidRange(place)
