"""Claims: what can be claimed of orders, words and signings, its contrary, and whether it is true."""

from lowerboards.basics import is_order
from lowerboards.below import is_below
from lowerboards.errors import InvalidClaim
from lowerboards.four import is_even, is_free
from lowerboards.lots import MOST_LETTERS_LISTED, lot_of
from lowerboards.papers import is_paper_made, paper_made
from lowerboards.signings import is_ringless
from lowerboards.webs import is_signing, web
from lowerboards.words import is_least, is_word, word_order

WORDS = (
    ("below", "over"), ("board", "beyond"), ("alike", "unlike"), ("named", "unnamed"), ("ringless", "round"),
    ("same", "other"),
)
CONTRARIES = {
    "below": "over", "over": "below", "board": "beyond", "beyond": "board", "alike": "unlike", "unlike": "alike",
    "named": "unnamed", "unnamed": "named", "ringless": "round", "round": "ringless", "same": "other", "other": "same",
}


def are_orders(parts):
    """Whether the parts are two orders of as many things."""
    return len(parts) == 2 and is_order(parts[0]) and is_order(parts[1]) and len(parts[0]) == len(parts[1])


def are_one_order(parts):
    """Whether the parts are one order."""
    return len(parts) == 1 and is_order(parts[0])


def are_word_and_order(parts):
    """Whether the parts are a least word of few letters, its number of things, and an order of as many."""
    if len(parts) != 3:
        return False
    word, many, order = parts
    if not is_word(word, many) or not is_least(word, many) or len(word) > MOST_LETTERS_LISTED:
        return False
    return is_order(order) and len(order) == many


def are_order_and_signing(parts):
    """Whether the parts are an order and a signing of its web."""
    return len(parts) == 2 and is_order(parts[0]) and is_signing(web(parts[0]), parts[1])


def are_words(parts):
    """Whether the parts are two words and the number of things of both."""
    return len(parts) == 3 and is_word(parts[0], parts[2]) and is_word(parts[1], parts[2])


def is_below_true(order, other):
    """Whether "below" is true."""
    return is_below(order, other)


def is_board_true(order):
    """Whether "board" is true."""
    return is_free(order)


def is_alike_true(order):
    """Whether "alike" is true."""
    return is_even(order)


def is_named_true(word, many, order):
    """Whether "named" is true."""
    return lot_of(word, many, order) is not None


def is_ringless_true(order, signing):
    """Whether "ringless" is true."""
    return is_ringless(order, signing)


def is_same_true(word, other, many):
    """Whether "same" is true."""
    return word_order(word, many) == word_order(other, many)


# Both by the first word of each line: the contrary has the same parts, and is true if that one is not.
PARTS = {
    "below": are_orders,
    "board": are_one_order,
    "alike": are_one_order,
    "named": are_word_and_order,
    "ringless": are_order_and_signing,
    "same": are_words,
}
TRUTHS = {
    "below": is_below_true,
    "board": is_board_true,
    "alike": is_alike_true,
    "named": is_named_true,
    "ringless": is_ringless_true,
    "same": is_same_true,
}


def first_word(word):
    """The first word of the line of a claim's word."""
    return word if word in PARTS else CONTRARIES[word]


def check_claim(claim):
    """InvalidClaim unless a claim."""
    if not is_claim(claim):
        raise InvalidClaim(claim)


def words():
    """The list of the tuples of the two words of each line."""
    return list(WORDS)


def is_claim(value):
    """Whether any value is a claim."""
    if not isinstance(value, tuple) or not value:
        return False
    if not isinstance(value[0], str) or value[0] not in CONTRARIES:
        return False
    are_parts = PARTS[first_word(value[0])]
    return are_parts(value[1:])


def is_true(claim):
    """Whether the claim is true."""
    check_claim(claim)
    word, *parts = claim
    first = first_word(word)
    holds = TRUTHS[first]
    return holds(*parts) == (word == first)


def contrary(claim):
    """The contrary claim."""
    check_claim(claim)
    word, *parts = claim
    return (CONTRARIES[word], *[list(part) if isinstance(part, list) else part for part in parts])


def paper_of(claim):
    """A paper of the claim; None if it is not true."""
    check_claim(claim)
    return paper_made(claim[0], claim[1:])


def is_paper_of(claim, value):
    """Whether any value is a paper of the claim."""
    check_claim(claim)
    return is_paper_made(claim[0], claim[1:], value)
