"""[81]: the length of a stretch, its row, its signed sum, the orders beside the ends."""

import random
import time

from lowerboards.errors import InvalidOrder, NotBelow, NotTwo, TooMany, UnlikeSizes
from lowerboards.levels import level_row
from lowerboards.lists import all_between
from lowerboards.orders import level, turned, undone
from lowerboards.stretches import betweens, length, signed, stretch_row
from tests.helper import (
    FOUR, NO_ORDERS, Case, come_of, drawn_below, drawn_order, orders_of, orders_up_to, pairs_wrong,
)

NINE = tuple(range(1, 10))
FALLING = tuple(range(9, 0, -1))
MIXED = (5, 9, 3, 1, 8, 2, 7, 6, 4)
BOTH = [("order", InvalidOrder, NO_ORDERS), ("other", InvalidOrder, NO_ORDERS)]
ALL = (length, stretch_row, signed, betweens)
TOO_MANY = {"what": "things", "limit": 6}


def stretches_up_to(size):
    """All pairs of orders of so many things of which the first one is below the second one."""
    return [(order, other) for other in orders_up_to(size) for order in sorted(come_of(other))]


def orders_between(order, other):
    """All orders between, by the words of the document."""
    return [found for found in sorted(come_of(other)) if tuple(order) in come_of(found)]


def row_by_counting(order, other):
    """The stretch's row, by going through all orders between."""
    levels = [len(pairs_wrong(found)) for found in orders_between(order, other)]
    return [levels.count(at) for at in range(len(pairs_wrong(order)), len(pairs_wrong(other)) + 1)]


class Examples(Case):
    def test_examples(self):
        self.same(
            [length([1, 2, 3], [3, 2, 1]), stretch_row([1, 2, 3], [3, 2, 1]), signed([1, 2, 3], [3, 2, 1]), betweens([1, 2, 3], [2, 3, 1])],
            [3, [1, 2, 2, 1], 0, [(1, 3, 2), (2, 1, 3)]],
        )


class Stretches(Case):
    def test_length(self):
        dice = random.Random(81)
        for order, other in stretches_up_to(4):
            self.tells(len(pairs_wrong(other)) - len(pairs_wrong(order)), length, order=order, other=other)
        for other in [FALLING, MIXED, *[drawn_order(dice, size) for size in (6, 7, 8, 9)]]:
            order = drawn_below(dice, other)
            self.tells(len(pairs_wrong(other)) - len(pairs_wrong(order)), length, order=order, other=other)
        self.tells(36, length, order=NINE, other=FALLING)
        self.tells(0, length, order=MIXED, other=MIXED)
        self.tells(0, length, order=[1], other=[1])
        self.tells(1, length, order=[1, 2], other=[2, 1])

    def test_rows_and_signed_sums(self):
        dice = random.Random(82)
        given = stretches_up_to(4) + [(drawn_below(dice, other), other) for other in orders_of(5)[::7] + FOUR[1:]]
        for order, other in given:
            self.tells(row_by_counting(order, other), stretch_row, order=order, other=other)
            self.tells(1 if order == other else 0, signed, order=order, other=other)

    def test_rows_of_more_things(self):
        dice = random.Random(83)
        for size in (5, 5, 5, 6, 6, 6):
            for other in (drawn_order(dice, size), tuple(range(size, 0, -1))):
                order = drawn_below(dice, other)
                row = stretch_row(order, other)
                found = all_between(order, other)
                self.assertEqual(row, [[level(one) - level(order) for one in found].count(at) for at in range(len(row))])
                self.assertEqual(sum(row[::2]) - sum(row[1::2]), signed(order, other))
                self.assertEqual(signed(order, other), 1 if order == other else 0)
                self.assertEqual(stretch_row(undone(order), undone(other)), row)
                self.assertEqual(stretch_row(turned(order), turned(other)), row)

    def test_from_the_sorted_order_it_is_the_level_row(self):
        for other in orders_up_to(4) + FOUR:
            self.tells(level_row(other), stretch_row, order=tuple(range(1, len(other) + 1)), other=other)

    def test_alike_ends(self):
        for order in orders_up_to(3) + FOUR:
            self.tells([1], stretch_row, order=order, other=order)
            self.tells(1, signed, order=order, other=order)

    def test_two_beside_the_ends_at_length_two(self):
        for order, other in stretches_up_to(4) + [(one, other) for other in orders_of(5)[::7] for one in sorted(come_of(other))[::5]]:
            if len(pairs_wrong(other)) - len(pairs_wrong(order)) == 2:
                found = [one for one in orders_between(order, other) if one not in (order, other)]
                self.assertEqual(len(found), 2)
                self.tells(found, betweens, order=order, other=other)
            else:
                self.fails(NotTwo, {}, betweens, order, list(other))
                self.fails(NotTwo, {}, betweens, order=list(order), other=other)

    def test_betweens_of_nine_things(self):
        self.tells([(1, 2, 3, 4, 5, 6, 7, 9, 8), (2, 1, 3, 4, 5, 6, 7, 8, 9)], betweens, order=NINE, other=(2, 1, 3, 4, 5, 6, 7, 9, 8))
        falling = [(8, 9, 7, 6, 5, 4, 3, 2, 1), (9, 7, 8, 6, 5, 4, 3, 2, 1)]
        self.tells(falling, betweens, order=(7, 9, 8, 6, 5, 4, 3, 2, 1), other=FALLING)
        for other in (NINE, FALLING):
            self.fails(NotTwo, {}, betweens, NINE, other)

    def test_in_a_second(self):
        six, falling = (1, 2, 3, 4, 5, 6), (6, 5, 4, 3, 2, 1)
        given = [(stretch_row, six, falling), (signed, six, falling), (length, NINE, FALLING), (betweens, NINE, (2, 1, 3, 4, 5, 6, 7, 9, 8))]
        for function, order, other in given:
            began = time.perf_counter()
            function(order, other)
            self.assertLess(time.perf_counter() - began, 1)


class Wrong(Case):
    def test_no_orders(self):
        for function in ALL:
            for other in ((2, 3, 1), (1, 2), (1, 2, 3)):
                self.wrong(function, {"order": [1, 2, 3], "other": other}, BOTH)

    def test_unlike_sizes_ahead_of_not_below(self):
        for function in ALL:
            for order, other in (([2, 1], (1, 2, 3)), (FALLING, [1]), ((1,), list(NINE))):
                self.fails(UnlikeSizes, {}, function, order, other)
                self.fails(UnlikeSizes, {}, function, order=order, other=other)

    def test_not_below(self):
        for function in ALL:
            for other in orders_up_to(4):
                lower = come_of(other)
                for order in orders_of(len(other)):
                    if order not in lower:
                        self.fails(NotBelow, {}, function, order, list(other))
            self.fails(NotBelow, {}, function, order=[3, 4, 1, 2], other=(4, 2, 3, 1))

    def test_too_many_things_behind_not_below(self):
        for function in (stretch_row, signed):
            for order, other in ((NINE, FALLING), (MIXED, MIXED), ([1, 2, 3, 4, 5, 6, 7], (2, 1, 3, 4, 5, 6, 7))):
                self.fails(TooMany, TOO_MANY, function, order, other)
                self.fails(TooMany, TOO_MANY, function, order=order, other=other)
            self.fails(NotBelow, {}, function, FALLING, NINE)
            self.fails(NotBelow, {}, function, (2, 1, 3, 4, 5, 6, 7), (1, 2, 3, 4, 5, 6, 7))
        self.fails(NotBelow, {}, betweens, (2, 1, 3, 4, 5, 6, 7), (1, 2, 3, 4, 5, 6, 7))
