"""Regions: the steps between ringless signings of an order's web, each of which turns one tie."""

from lowerboards.checks import check_few, check_order, is_within_bounds
from lowerboards.errors import InvalidTie, NotRingless
from lowerboards.levels import level_row
from lowerboards.lists import MOST_LISTED
from lowerboards.signings import all_signings, sequence_along
from lowerboards.webs import signed_ties, web


def base(order):
    """The signing of noughts, a list."""
    return [0] * len(web(order))


def step_row(order):
    """For k from 0 to the number of ties, how many ringless signings have just k ties turned."""
    turned_ties = [sum(signing) for signing in all_signings(order)]
    return [turned_ties.count(many) for many in range(len(web(order)) + 1)]


def is_same_row(order):
    """Whether the step row is the level row."""
    check_order(order)
    check_few(order, MOST_LISTED)
    return step_row(order) == level_row(order)


def with_tie_turned(signing, tie):
    """The signing, a new list, with this tie's sign changed; nothing is looked at."""
    return [1 - sign if at == tie else sign for at, sign in enumerate(signing)]


def turned_signing(order, signing, tie):
    """The signing, a new list, with this tie's sign changed."""
    led = signed_ties(order, signing)
    if not is_within_bounds(tie, 0, len(led) - 1):
        raise InvalidTie(tie)
    return with_tie_turned(signing, tie)


def led_further(sequence, led):
    """For each place, a dict, the places to which ways of two ties or more lead from it.

    sequence: all places, each tie leading from one of them to a later one.
    """
    led_to = {}
    further = {}
    for place in sequence[::-1]:
        ends = [end for start, end in led if start == place]
        further[place] = [last for end in ends for last in led_to[end]]
        led_to[place] = sorted(set(ends + further[place]))
    return further


def turnable(order, signing):
    """The rising list of the positions of the ties that can be turned alone."""
    sequence = sequence_along(order, signing)
    if sequence is None:
        raise NotRingless()
    led = signed_ties(order, signing)
    further = led_further(sequence, led)
    # A tie that is turned makes a ring exactly if another way leads where it led.
    return [tie for tie, (start, end) in enumerate(led) if end not in further[start]]
