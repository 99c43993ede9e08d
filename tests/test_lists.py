"""[5] and [23]: the lists of all orders below, above and between."""

from lowerboards.errors import InvalidOrder, TooMany, UnlikeSizes
from lowerboards.lists import all_above, all_below, all_between
from tests.helper import NO_ORDERS, Case, by_level, come_of, orders_of, orders_up_to

NAMED = [(3, 5, 1, 4, 2), (4, 2, 5, 1, 3), (4, 5, 3, 1, 2), (1, 2, 3, 4, 5), (5, 4, 3, 2, 1)]
SIX = [(3, 5, 1, 6, 2, 4), (6, 5, 4, 3, 2, 1), (1, 2, 3, 4, 5, 6), (4, 6, 1, 2, 5, 3)]
FEW = {"what": "things", "limit": 6}
BOTH = [("order", InvalidOrder, NO_ORDERS), ("other", InvalidOrder, NO_ORDERS)]


def come_to(order):
    """All orders of which the order comes."""
    return [upper for upper in orders_of(len(order)) if tuple(order) in come_of(upper)]


class Examples(Case):
    def test_examples(self):
        self.same(
            [all_below([3, 1, 2]), all_between([1, 3, 2], [3, 1, 2]), len(all_below([4, 2, 3, 1]))],
            [[(1, 2, 3), (1, 3, 2), (2, 1, 3), (3, 1, 2)], [(1, 3, 2), (3, 1, 2)], 20],
        )


class Told(Case):
    def test_all_below(self):
        for order in orders_up_to(4) + NAMED + SIX:
            self.tells(by_level(come_of(order)), all_below, order=order)
        self.assertEqual(len(all_below(SIX[1])), 720)
        self.tells([(1,)], all_below, order=[1])

    def test_all_above(self):
        for order in orders_up_to(4) + NAMED:
            self.tells(by_level(come_to(order)), all_above, order=order)
        self.tells([(1,)], all_above, order=[1])
        self.tells([SIX[1]], all_above, order=SIX[1])
        self.tells(all_below(SIX[1]), all_above, order=SIX[2])

    def test_all_between(self):
        for size in range(1, 5):
            for order in orders_of(size):
                above = come_to(order)
                for other in orders_of(size):
                    want = by_level([one for one in above if one in come_of(other)])
                    self.tells(want, all_between, order=order, other=other)
        for other in NAMED:
            for order in orders_of(5)[::9]:
                below = come_of(other)
                want = by_level([one for one in below if order in come_of(one)])
                self.tells(want, all_between, order=order, other=other)
        self.tells(all_below(SIX[0]), all_between, order=SIX[2], other=SIX[0])
        self.tells(all_above(SIX[0]), all_between, order=SIX[0], other=SIX[1])

    def test_nothing_between_where_the_order_is_not_below(self):
        self.tells([], all_between, order=[3, 4, 1, 2], other=[4, 2, 3, 1])
        self.tells([], all_between, order=SIX[1], other=SIX[2])


class Wrong(Case):
    def test_no_orders(self):
        for function in (all_below, all_above):
            self.wrong(function, {"order": [3, 1, 2]}, BOTH[:1])
        for other in ((3, 1, 2), (1, 2), tuple(range(1, 10))):
            self.wrong(all_between, {"order": [1, 3, 2], "other": other}, BOTH)

    def test_six_things_and_more(self):
        for size in (7, 8, 9):
            order = list(range(1, size + 1))
            for function in (all_below, all_above):
                self.fails(TooMany, FEW, function, order)
                self.fails(TooMany, FEW, function, order=tuple(order[::-1]))
            self.fails(TooMany, FEW, all_between, order, tuple(order))

    def test_unlike_sizes_ahead_of_too_many(self):
        for order, other in (([1, 2], (3, 1, 2)), (tuple(range(1, 8)), [1]), ((1,), list(range(1, 10)))):
            self.fails(UnlikeSizes, {}, all_between, order, other)
            self.fails(UnlikeSizes, {}, all_between, order=order, other=other)
