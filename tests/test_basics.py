"""[2] and [5]: INTEGERS, COUNTS, orders."""

from lowerboards.basics import is_count, is_integer, is_order
from tests.helper import ANYTHING, NO_ORDERS, Case, orders_up_to

INTEGERS = [0, 1, 2, 10, -1, 10 ** 29, -10 ** 29]
NO_INTEGERS = [value for value in ANYTHING if not (value.__class__ is int)]


class Numbers(Case):
    def test_integers(self):
        self.asks(INTEGERS, NO_INTEGERS, is_integer)

    def test_counts(self):
        counts = [value for value in INTEGERS if value >= 0]
        self.asks(counts, NO_INTEGERS + [-1, -2, -10 ** 29], is_count)

    def test_bools_are_none(self):
        self.asks([], [True, False], is_integer)
        self.asks([], [True, False], is_count)


class Orders(Case):
    def test_all_of_up_to_five_things(self):
        for order in orders_up_to(5):
            self.asks([order, list(order)], [], is_order)

    def test_one_and_nine_things(self):
        self.asks([[1], (1,), list(range(1, 10)), tuple(range(9, 0, -1)), [5, 9, 3, 1, 8, 2, 7, 6, 4]], [], is_order)

    def test_others(self):
        self.asks([], NO_ORDERS, is_order)
