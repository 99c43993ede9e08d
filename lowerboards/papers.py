"""Papers: for each word of a claim a paper that shows it, and whether a value is such a paper.

All functions take the parts of a claim, which are not looked at. Those that make a paper tell None if the claim is
not true.
"""

from lowerboards.basics import MOST_THINGS, is_order
from lowerboards.below import chain, is_chain
from lowerboards.beyond import beyond_paper, is_beyond_paper
from lowerboards.checks import are_within_bounds, is_each_once, is_list, is_pair, is_rising_list, is_tuple_of
from lowerboards.corners import counted, mattering, over
from lowerboards.four import is_free
from lowerboards.lots import is_kept, kept_lots, lot_of, order_named
from lowerboards.multipliers import is_steps, steps
from lowerboards.signings import sequence_along
from lowerboards.turns import is_lead, lead
from lowerboards.ways import is_uneven_paper, uneven_paper
from lowerboards.webs import is_ring_in, ring_in, signed_ties
from lowerboards.words import is_lessened, lessened, without_letters, word_order


def below_paper(order, other):
    """A chain from the other one down to the order."""
    return chain(order, other)


def over_paper(order, other):
    """A corner that counts more in the order."""
    return over(order, other)


def board_paper(order):
    """For each corner that matters what it counts, if none of them is loose."""
    if not is_free(order):
        return None
    return [(m, k, counted(order, (m, k))) for m, k in mattering(order)]


def way_paper(order):
    """A beyond paper."""
    return beyond_paper(order)


def alike_paper(order):
    """Steps."""
    return steps(order)


def unlike_paper(order):
    """An uneven paper."""
    return uneven_paper(order)


def named_paper(word, many, order):
    """The kept lot that names the order."""
    return lot_of(word, many, order)


def unnamed_paper(word, many, order):
    """All kept lots, if none names the order."""
    return kept_lots(word, many) if lot_of(word, many, order) is None else None


def ringless_paper(order, signing):
    """All places, each tie leading to a later one."""
    return sequence_along(order, signing)


def round_paper(order, signing):
    """A ring."""
    return ring_in(order, signing)


def same_paper(word, other, many):
    """What lessens both words, and turns that lead what is left of the one into what is left of the other."""
    if word_order(word, many) != word_order(other, many):
        return None
    struck, others = lessened(word, many), lessened(other, many)
    return (struck, others, lead(without_letters(word, struck), without_letters(other, others), many))


def other_paper(word, other, many):
    """The orders of both words, if they are unlike."""
    orders = (word_order(word, many), word_order(other, many))
    return orders if orders[0] != orders[1] else None


def is_below_paper(value, order, other):
    """Whether any value is a paper of "below"."""
    return is_chain(order, other, value)


def is_over_paper(value, order, other):
    """Whether any value is a paper of "over"."""
    return is_pair(value, 1, len(order)) and counted(order, value) > counted(other, value)


def is_board_paper(value, order):
    """Whether any value is a paper of "board"."""
    if not is_list(value):
        return False
    if not all(isinstance(told, tuple) and are_within_bounds(told, 0, MOST_THINGS) for told in value):
        return False
    return list(value) == board_paper(order)


def is_way_paper(value, order):
    """Whether any value is a paper of "beyond"."""
    return is_beyond_paper(order, value)


def is_alike_paper(value, order):
    """Whether any value is a paper of "alike"."""
    return is_steps(order, value)


def is_unlike_paper(value, order):
    """Whether any value is a paper of "unlike"."""
    return is_uneven_paper(order, value)


def is_named_paper(value, word, many, order):
    """Whether any value is a paper of "named"."""
    if not is_rising_list(value, 0, len(word) - 1) or not is_kept(word, many, value):
        return False
    return order_named(word, many, value) == tuple(order)


def is_unnamed_paper(value, word, many, order):
    """Whether any value is a paper of "unnamed"."""
    if not is_list(value) or not all(are_within_bounds(lot, 0, len(word) - 1) for lot in value):
        return False
    return [list(lot) for lot in value] == unnamed_paper(word, many, order)


def is_ringless_paper(value, order, signing):
    """Whether any value is a paper of "ringless"."""
    if not is_each_once(value, len(order)):
        return False
    return all(value.index(start) < value.index(end) for start, end in signed_ties(order, signing))


def is_round_paper(value, order, signing):
    """Whether any value is a paper of "round"."""
    return is_ring_in(order, signing, value)


def is_same_paper(value, word, other, many):
    """Whether any value is a paper of "same"."""
    if not is_tuple_of(value, 3):
        return False
    struck, others, turns = value
    if not is_lessened(word, many, struck) or not is_lessened(other, many, others):
        return False
    if word_order(word, many) != word_order(other, many):
        return False
    return is_lead(without_letters(word, struck), without_letters(other, others), many, turns)


def is_other_paper(value, word, other, many):
    """Whether any value is a paper of "other"."""
    if not is_tuple_of(value, 2) or not all(is_order(order) for order in value):
        return False
    return (tuple(value[0]), tuple(value[1])) == other_paper(word, other, many)


MAKERS = {
    "below": below_paper,
    "over": over_paper,
    "board": board_paper,
    "beyond": way_paper,
    "alike": alike_paper,
    "unlike": unlike_paper,
    "named": named_paper,
    "unnamed": unnamed_paper,
    "ringless": ringless_paper,
    "round": round_paper,
    "same": same_paper,
    "other": other_paper,
}
TESTS = {
    "below": is_below_paper,
    "over": is_over_paper,
    "board": is_board_paper,
    "beyond": is_way_paper,
    "alike": is_alike_paper,
    "unlike": is_unlike_paper,
    "named": is_named_paper,
    "unnamed": is_unnamed_paper,
    "ringless": is_ringless_paper,
    "round": is_round_paper,
    "same": is_same_paper,
    "other": is_other_paper,
}


def paper_made(word, parts):
    """A paper of the claim of this word and these parts; None if it is not true."""
    make = MAKERS[word]
    return make(*parts)


def is_paper_made(word, parts, value):
    """Whether any value is a paper of the claim of this word and these parts."""
    is_one = TESTS[word]
    return is_one(value, *parts)
