"""[61] and [62]: level rows, and whether they are alike from both ends."""

import collections
import time

from lowerboards.errors import InvalidOrder, TooMany
from lowerboards.four import is_even
from lowerboards.levels import is_alike, level_row, unlike_level
from lowerboards.orders import turned, undone
from tests.helper import FOUR, NO_ORDERS, Case, all_standings, come_of, orders_of, orders_up_to, pairs_wrong, with_things_put_in

NINE = tuple(range(1, 10))
FALLING = tuple(range(9, 0, -1))
MIXED = (5, 9, 3, 1, 8, 2, 7, 6, 4)
UNEVEN = [(3, 4, 1, 2), (4, 2, 3, 1)]
NAMED = FOUR + [(4, 5, 3, 1, 2), (6, 5, 4, 3, 2, 1), (1, 2, 3, 4, 5, 6), (2, 4, 6, 1, 3, 5), (3, 4, 1, 2, 6, 5), (2, 3, 4, 5, 6, 1)]
ENOUGH = orders_up_to(4) + orders_of(5)[::5] + NAMED + [longer for way in UNEVEN for longer in with_things_put_in(way)[::3]]


def row_by_levels(order):
    """How many of the orders below have each level, from the list of them."""
    found = collections.Counter(len(pairs_wrong(one)) for one in come_of(order))
    return [found[at] for at in range(len(pairs_wrong(order)) + 1)]


def first_unlike(row):
    """The first level that counts another number than its counterpart, with both counts."""
    found = [(at, row[at], row[-1 - at]) for at in range(len(row)) if row[at] != row[len(row) - 1 - at]]
    return found[0] if found else None


def has_neither(order):
    """Whether neither 3412 nor 4231 stands in the order."""
    return not any(all_standings(order, way) for way in UNEVEN)


class Examples(Case):
    def test_examples(self):
        self.same(
            [level_row((3, 2, 1)), unlike_level([3, 4, 1, 2]), unlike_level([4, 5, 3, 1, 2])],
            [[1, 2, 2, 1], (1, 3, 4), (2, 9, 10)],
        )
        self.same([is_alike((9, 8, 7, 6, 5, 4, 3, 2, 1)), is_alike((4, 2, 3, 1))], [True, False])


class Told(Case):
    def test_level_row(self):
        for order in ENOUGH:
            self.tells(row_by_levels(order), level_row, order=order)
        self.tells([1], level_row, order=[1])
        self.tells([1], level_row, order=[1, 2, 3, 4, 5, 6])
        self.tells([1, 3, 5, 4, 1], level_row, order=[3, 4, 1, 2])
        self.tells([1, 5, 14, 29, 49, 71, 90, 101, 101, 90, 71, 49, 29, 14, 5, 1], level_row, order=[6, 5, 4, 3, 2, 1])

    def test_ends_and_sum(self):
        for order in orders_up_to(5):
            row = level_row(order)
            self.assertEqual((row[0], row[-1], sum(row)), (1, 1, len(come_of(order))))

    def test_undone_and_turned_orders_go_along(self):
        for order in ENOUGH:
            self.assertEqual(level_row(undone(order)), level_row(order))
            self.assertEqual(level_row(turned(order)), level_row(order))

    def test_unlike_level(self):
        for order in ENOUGH + orders_of(5):
            self.tells(first_unlike(row_by_levels(order)), unlike_level, order=order)

    def test_lower_levels_never_count_more(self):
        for order in orders_up_to(5) + NAMED:
            row = level_row(order)
            for at in range(len(row) // 2):
                self.assertLessEqual(row[at], row[-1 - at])


class Alike(Case):
    def test_alike_exactly_if_even(self):
        for order in orders_up_to(5) + orders_of(6)[::53] + NAMED:
            row = row_by_levels(order)
            self.tells(row == row[::-1], is_alike, order=order)
            self.assertIs(is_even(order), row == row[::-1])
            self.assertIs(unlike_level(order) is None, row == row[::-1])

    def test_orders_of_up_to_nine_things(self):
        large = [NINE, FALLING, MIXED, (2, 3, 4, 5, 6, 7, 8, 9, 1), (1, 2, 3, 4, 5, 8, 9, 6, 7), (9, 1, 2, 3, 4, 5, 6, 7, 8)]
        for order in large + [(2, 1, 4, 3, 6, 5, 8, 7), (7, 2, 3, 4, 5, 6, 1), (8, 7, 6, 5, 4, 3, 2, 1)]:
            began = time.perf_counter()
            is_alike(order)
            self.assertLess(time.perf_counter() - began, 1)
            self.tells(has_neither(order), is_alike, order=order)


class Wrong(Case):
    def test_no_orders(self):
        for function in (level_row, unlike_level, is_alike):
            self.wrong(function, {"order": [3, 1, 2]}, [("order", InvalidOrder, NO_ORDERS)])

    def test_more_than_six_things(self):
        for size in (7, 8, 9):
            for order in (list(range(1, size + 1)), tuple(range(size, 0, -1))):
                for function in (level_row, unlike_level):
                    self.fails(TooMany, {"what": "things", "limit": 6}, function, order)
                    self.fails(TooMany, {"what": "things", "limit": 6}, function, order=order)
