"""Words within words: striking letters out of a least word to get a least word of an order below."""

from lowerboards.checks import check_order, is_rising_list
from lowerboards.errors import UnlikeSizes
from lowerboards.orders import swapped
from lowerboards.words import check_least_word, is_least, word_order


def check_within(order, word, many):
    """InvalidOrder, InvalidMany, InvalidWord unless a least word; UnlikeSizes unless of as many things."""
    check_order(order)
    check_least_word(word, many)
    if len(order) != many:
        raise UnlikeSizes()


def within(order, word, many):
    """The rising list of the positions of letters that are a least word of the order; None without one."""
    check_within(order, word, many)
    things = tuple(order)
    kept = []
    for position in range(len(word) - 1, -1, -1):
        letter = word[position]
        if things[letter - 1] > things[letter]:
            kept.append(position)
            things = swapped(things, letter - 1, letter)
    return kept[::-1] if things == tuple(range(1, many + 1)) else None


def is_within(order, word, many, value):
    """Whether any value is a rising list of the positions of letters that are a least word of the order."""
    check_within(order, word, many)
    if not is_rising_list(value, 0, len(word) - 1):
        return False
    letters = [word[position] for position in value]
    return is_least(letters, many) and word_order(letters, many) == tuple(order)
