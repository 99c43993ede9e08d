"""Webs: the ties of an order's places, their colourings, and rings along a signing."""

from lowerboards.basics import is_count
from lowerboards.checks import are_within_bounds, check_order
from lowerboards.errors import InvalidMany, InvalidSigning
from lowerboards.orders import wrong_pairs

# Nine things, each two of them a wrong pair.
MOST_TIES = 36


def web(order):
    """The sorted list of the ties of the order's web."""
    return wrong_pairs(order)


def one_thing_more(ways, thing):
    """In how many ways places are parted into rows of rising things, if a thing is added behind them.

    ways: a dict that tells it without that thing, for all rows' last things, a rising tuple.
    """
    told = {}
    for ends, count in ways.items():
        longer = [[thing if end == lesser else end for end in ends] for lesser in ends if lesser < thing]
        for row in [*longer, [*ends, thing]]:
            key = tuple(sorted(row))
            told[key] = told.get(key, 0) + count
    return told


def partings(order):
    """For k from 0 on, in how many ways the places are parted into k rows, no two places of one row tied."""
    # Places without a tie between them hold rising things: so a row is told by its last thing.
    ways = {(): 1}
    for thing in order:
        ways = one_thing_more(ways, thing)
    rows = range(len(order) + 1)
    return [sum([count for ends, count in ways.items() if len(ends) == many]) for many in rows]


def colour_row(order):
    """The colour row of the order's web."""
    check_order(order)
    parted = partings(order)
    row = [parted[-1]]
    # With x colours k rows are coloured in x times (x - 1) times .. (x - k + 1) ways.
    for used in range(len(order) - 1, -1, -1):
        row = [lower - used * entry for lower, entry in zip([0] + row, row + [0])]
        row[0] += parted[used]
    return row


def value_at(row, number):
    """What the sum of the row's entries, each times a power of the number, comes to."""
    told = 0
    for entry in row[::-1]:
        told = told * number + entry
    return told


def colourings(order, many):
    """How many colourings of the order's web there are with many colours."""
    row = colour_row(order)
    if not is_count(many):
        raise InvalidMany(many)
    return value_at(row, many)


def is_signing(ties, value):
    """Whether any value is a signing of a web with these ties."""
    return are_within_bounds(value, 0, 1) and len(value) == len(ties)


def signed_ties(order, signing):
    """Each tie of the order's web as a tuple: the place from which it leads, the place to which it leads."""
    ties = web(order)
    if not is_signing(ties, signing):
        raise InvalidSigning(signing)
    return [(i, j) if sign == 0 else (j, i) for (i, j), sign in zip(ties, signing)]


def left_over(size, led):
    """The places that are left if those from which no tie leads to what is left are taken away again and again."""
    left = list(range(size))
    fewer = sorted(set([start for start, end in led]))
    while len(fewer) < len(left):
        left = fewer
        fewer = sorted(set([start for start, end in led if start in left and end in left]))
    return left


def ring_in(order, signing):
    """A ring along the signing, a list of places; None if it is ringless."""
    led = signed_ties(order, signing)
    left = left_over(len(order), led)
    if not left:
        return None
    # From each place that is left a tie leads to another one: whoever walks on comes back.
    walk = []
    place = left[0]
    while place not in walk:
        walk.append(place)
        place = [end for start, end in led if start == place and end in left][0]
    return walk[walk.index(place):]


def is_ring_in(order, signing, value):
    """Whether any value is a ring along the signing."""
    led = signed_ties(order, signing)
    if not are_within_bounds(value, 0, len(order) - 1) or len(value) < 3:
        return False
    if len(set(value)) < len(value):
        return False
    return all((place, following) in led for place, following in zip(value, value[1:] + value[:1]))
