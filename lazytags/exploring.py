"""What can be reached from a first thing, step by step, in the order of the least ways to it."""

from lazytags.errors import TooMany


def explored(first, many, lead, most=None):
    """All that is reached from first, where lead(thing, number) tells a next thing for each number below many.

    Returns three lists, with an item for each thing, in the order of the least rows of numbers that lead to them:
    the things; the pairs of the place of the thing before and the number that led on from it (None for the first);
    the tuples of the places of the next things. Raises TooMany if there are more than most things.
    """
    things, origins, leads = explored_some(first, many, lead, most)
    if most is not None and len(things) > most:
        raise TooMany()
    return things, origins, leads


def explored_some(first, many, lead, most):
    """What explored returns, but if there are more than most things it stops at one more than that."""
    things = [first]
    origins = [None]
    places = {first: 0}
    leads = []
    while len(leads) < len(things):
        line = []
        for number in range(many):
            further = lead(things[len(leads)], number)
            place = places.get(further)
            if place is None:
                place = len(things)
                places[further] = place
                things.append(further)
                origins.append((len(leads), number))
                if place == most:
                    return things, origins, leads
            line.append(place)
        leads.append(tuple(line))
    return things, origins, leads


def ways_of(origins, names):
    """The list of the least ways to all things, as tuples of what the names are of the numbers."""
    ways = [()]
    for before, number in origins[1:]:
        ways.append((*ways[before], names[number]))
    return ways


def way_to(origins, place):
    """The least row of numbers that leads to the thing at a place."""
    numbers = []
    while place > 0:
        place, number = origins[place]
        numbers.append(number)
    return tuple(numbers[::-1])
