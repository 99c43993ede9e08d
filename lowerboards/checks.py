"""The questions and errors that several files of the package have in common."""

from lowerboards.basics import MOST_THINGS, is_integer, is_order
from lowerboards.errors import InvalidCorner, InvalidMany, InvalidOrder, InvalidPlace, TooMany, UnlikeSizes


def is_list(value):
    """Whether any value is a list or, as that stands for one, a tuple."""
    return isinstance(value, (list, tuple))


def is_within_bounds(value, low, high):
    """Whether any value is an INTEGER from low to high."""
    return is_integer(value) and low <= value <= high


def are_within_bounds(value, low, high):
    """Whether any value is a list of INTEGERS from low to high."""
    return is_list(value) and all(is_within_bounds(number, low, high) for number in value)


def is_tuple_of(value, size):
    """Whether any value is a tuple of so many parts."""
    return isinstance(value, tuple) and len(value) == size


def is_pair(value, low, high):
    """Whether any value is a tuple of two INTEGERS from low to high."""
    return is_tuple_of(value, 2) and are_within_bounds(value, low, high)


def is_rising_list(value, low, high):
    """Whether any value is a rising list of unlike INTEGERS from low to high."""
    if not are_within_bounds(value, low, high):
        return False
    return all(lesser < greater for lesser, greater in zip(value, value[1:]))


def is_each_once(value, size):
    """Whether any value is a list of the INTEGERS below the size, each once."""
    return are_within_bounds(value, 0, size - 1) and sorted(value) == list(range(size))


def is_numeral(word, most):
    """Whether the string is a COUNT of at most so many figures, without needless noughts."""
    if not 1 <= len(word) <= most or not all("0" <= sign <= "9" for sign in word):
        return False
    return word == "0" or word[0] != "0"


def check_order(order):
    """InvalidOrder unless an order."""
    if not is_order(order):
        raise InvalidOrder(order)


def check_orders(order, other):
    """InvalidOrder unless both are orders, UnlikeSizes unless of as many things."""
    check_order(order)
    check_order(other)
    if len(order) != len(other):
        raise UnlikeSizes()


def check_number(value, low, high):
    """InvalidMany unless a COUNT from low to high."""
    if not is_within_bounds(value, low, high):
        raise InvalidMany(value)


def check_many(many):
    """InvalidMany unless a COUNT of things that an order can have."""
    check_number(many, 1, MOST_THINGS)


def check_place(order, place):
    """InvalidPlace unless a place of the order."""
    if not is_within_bounds(place, 0, len(order) - 1):
        raise InvalidPlace(place)


def check_corner(size, corner):
    """InvalidCorner unless a corner of so many things."""
    if not is_pair(corner, 1, size):
        raise InvalidCorner(corner)


def check_few(order, limit):
    """TooMany if the order has more things than the limit."""
    if len(order) > limit:
        raise TooMany("things", limit)
