"""Lots: positions of a least word's letters, those that are kept, and the orders that they name."""

from lowerboards.checks import check_order, is_rising_list
from lowerboards.errors import InvalidLot, TooMany, UnlikeSizes
from lowerboards.lists import levels_below
from lowerboards.words import check_least_word, things_exchanged, without_letters, word_order

MOST_LETTERS_LISTED = 10


def check_lot(word, lot):
    """InvalidLot unless a lot of the word."""
    if not is_rising_list(lot, 0, len(word) - 1):
        raise InvalidLot(lot)


def check_few_letters(word):
    """TooMany if the word has more letters than lots are listed for."""
    if len(word) > MOST_LETTERS_LISTED:
        raise TooMany("letters", MOST_LETTERS_LISTED)


def pairs_of(word, many):
    """For each letter of a least word its pair: the places at which the things that it exchanges stand at last."""
    check_least_word(word, many)
    order = word_order(word, many)
    return [(order.index(high), order.index(low)) for low, high in things_exchanged(word, many)]


def holds_no_broken_ring(pairs, many, lot):
    """Whether the lot does not have all positions of any broken ring of the ties, told letter by letter."""
    # For each place the one by which all those are called that hang together with it.
    homes = list(range(many))
    for position, (i, j) in enumerate(pairs):
        if homes[i] == homes[j]:
            return False
        if position in lot:
            homes = [homes[i] if home == homes[j] else home for home in homes]
    return True


def is_kept(word, many, lot):
    """Whether the lot does not have all positions of any broken ring of the least word."""
    pairs = pairs_of(word, many)
    check_lot(word, lot)
    return holds_no_broken_ring(pairs, many, lot)


def order_named(word, many, lot):
    """The order of the word without the lot's letters."""
    return word_order(without_letters(word, lot), many)


def named(word, many, lot):
    """The order that the lot of a least word names."""
    check_least_word(word, many)
    check_lot(word, lot)
    return order_named(word, many, lot)


def longer_lots(lots, many):
    """The lots with one of so many positions behind their own, in the sequence of the lots."""
    return [lot + [position] for lot in lots for position in range(lot[-1] + 1 if lot else 0, many)]


def kept_lots(word, many):
    """The list of all kept lots, the shorter ones first, those of one length sorted."""
    pairs = pairs_of(word, many)
    check_few_letters(word)
    told = []
    row = [[]]
    # A kept lot is still kept without its last position: so the longer ones come of the shorter ones.
    while row:
        told.extend(row)
        row = [lot for lot in longer_lots(row, len(word)) if holds_no_broken_ring(pairs, many, lot)]
    return told


def lot_of(word, many, order):
    """The kept lot that names the order; None without one."""
    check_least_word(word, many)
    check_order(order)
    if len(order) != many:
        raise UnlikeSizes()
    for lot in kept_lots(word, many):
        if order_named(word, many, lot) == tuple(order):
            return lot
    return None


def unnamed(word, many):
    """The first order, by level, then sorted, below the word's order that no kept lot names; None without one."""
    names = set([order_named(word, many, lot) for lot in kept_lots(word, many)])
    for row in levels_below(word_order(word, many)):
        for order in row:
            if order not in names:
                return order
    return None
