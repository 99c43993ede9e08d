"""Signings: which are ringless, how many, all of them, and the places to which all ties of theirs lead."""

from lowerboards.checks import check_few, check_order
from lowerboards.layings import all_layings
from lowerboards.lists import MOST_LISTED
from lowerboards.webs import colour_row, ring_in, signed_ties, value_at, web


def is_ringless(order, signing):
    """Whether along the signing nobody comes back to where they began."""
    return ring_in(order, signing) is None


def sequence_along(order, signing):
    """All places, each once, such that each tie leads from one of them to a later one; None if there is a ring."""
    led = signed_ties(order, signing)
    left = list(range(len(order)))
    told = []
    while left:
        ends = [end for start, end in led if start in left]
        first = [place for place in left if place not in ends]
        if not first:
            return None
        told.extend(first)
        left = [place for place in left if place in ends]
    return told


def how_many_signings(order):
    """How many ringless signings the order's web has: its colour row tells it."""
    return abs(value_at(colour_row(order), -1))


def signing_of(ties, ranks):
    """The signing, a tuple, of which each tie leads to that of its places which has the greater rank."""
    return tuple([0 if ranks[i] < ranks[j] else 1 for i, j in ties])


def all_signings(order):
    """The sorted list of the ringless signings of the order's web."""
    check_order(order)
    check_few(order, MOST_LISTED)
    ties = web(order)
    size = len(order)
    # A signing is ringless exactly if the places can be ranked so that each tie leads upward.
    rankings = all_layings([(1, size)] * size)
    return [list(signing) for signing in sorted(set([signing_of(ties, ranks) for ranks in rankings]))]


def last_places(order, signing):
    """The rising list of the places to which each of their ties leads."""
    begun = [start for start, end in signed_ties(order, signing)]
    return [place for place in range(len(order)) if place not in begun]
