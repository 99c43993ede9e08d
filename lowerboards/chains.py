"""Chains: single steps from the first end of a stretch up to the second one, and the labels of exchanges."""

from lowerboards.below import lies_below, takes_one_away
from lowerboards.checks import check_orders
from lowerboards.errors import NotOne
from lowerboards.lists import MOST_LISTED
from lowerboards.orders import level, swapped
from lowerboards.stretches import check_few_between, check_stretch


def label(order, other):
    """The tuple of the two things, the lesser one first, that the exchange from the one up to the other exchanges."""
    check_orders(order, other)
    unlike = [place for place in range(len(order)) if order[place] != other[place]]
    if len(unlike) != 2:
        raise NotOne()
    first, second = unlike
    # Where just two places are unlike, their things are the same two.
    if order[first] > order[second]:
        raise NotOne()
    return (order[first], order[second])


def label_pairs(size):
    """The sorted list of all labels of so many things."""
    return [(a, b) for a in range(1, size + 1) for b in range(a + 1, size + 1)]


def exchanged_upward(order, two):
    """The order with the two things of a label exchanged; None if the lesser one does not stand ahead."""
    first, second = order.index(two[0]), order.index(two[1])
    return swapped(order, first, second) if first < second else None


def is_single_step(order, upper, two):
    """Whether the exchange of this label, which leads upward, raises the level by 1."""
    return takes_one_away(upper, order.index(two[0]), order.index(two[1]))


def single_steps(order, other):
    """The orders below the other one to which single steps lead from the order, by their labels."""
    told = []
    for two in label_pairs(len(order)):
        upper = exchanged_upward(order, two)
        if upper is not None and is_single_step(order, upper, two) and lies_below(upper, other):
            told.append(upper)
    return told


def climb(order, other, choice):
    """The chain that takes, of all single steps that stay below the second end, the one at this index."""
    check_stretch(order, other)
    told = [tuple(order)]
    while told[-1] != tuple(other):
        told.append(single_steps(told[-1], other)[choice])
    return told


def rising_chain(order, other):
    """The chain whose labels rise: it takes the least one each time."""
    return climb(order, other, 0)


def falling_chain(order, other):
    """The chain whose labels fall: it takes the greatest one each time."""
    return climb(order, other, -1)


def one_step_more(ways, other):
    """A dict of the orders below the other one, each with the number of ways that lead to it by one step more."""
    told = {}
    for order, count in ways.items():
        for upper in single_steps(order, other):
            told[upper] = told.get(upper, 0) + count
    return told


def how_many_chains(order, other):
    """How many chains the stretch has."""
    check_few_between(order, other, MOST_LISTED)
    ways = {tuple(order): 1}
    for _ in range(level(other) - level(order)):
        ways = one_step_more(ways, other)
    return ways[tuple(other)]
