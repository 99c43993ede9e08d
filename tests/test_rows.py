"""[84] to [88]: roads rows, falls rows, steep rows, the rows of Kazhdan and Lusztig."""

import functools
import itertools
import random
import time

from lowerboards.errors import InvalidOrder, NotBelow, TooMany, UnlikeSizes
from lowerboards.four import is_even
from lowerboards.orders import turned, undone
from lowerboards.rows import falls_row, is_trivial, lusztig, roads_row, steep_row
from tests.helper import NO_ORDERS, Case, come_of, drawn_below, orders_of, orders_up_to, pairs_wrong, with_exchange

NINE = tuple(range(1, 10))
FALLING = tuple(range(9, 0, -1))
BOTH = [("order", InvalidOrder, NO_ORDERS), ("other", InvalidOrder, NO_ORDERS)]
ALL = (roads_row, falls_row, steep_row, lusztig)


@functools.lru_cache(None)
def below(order):
    """All orders below the order."""
    return frozenset(come_of(order))


def height(order):
    """The level of an order."""
    return len(pairs_wrong(order))


def stretches_of_things(size):
    """All pairs of orders of so many things of which the first one is below the second one."""
    return [(order, other) for other in orders_of(size) for order in sorted(below(other))]


def some_of_five(step):
    """Some pairs of orders of five things of which the first one is below the second one."""
    return stretches_of_things(5)[::step]


FEW = [pair for size in (1, 2, 3, 4) for pair in stretches_of_things(size)]


@functools.lru_cache(None)
def roads(order, other, least):
    """How many roads from the order to the other one, by going through all, have labels that rise beyond the least one."""
    told = [0] * (height(other) - height(order) + 1)
    if order == other:
        return [1]
    for i, j in itertools.combinations(range(len(order)), 2):
        two = (order[i], order[j])
        upper = with_exchange(order, i, j)
        if least < two and order[i] < order[j] and upper in below(other):
            for many, count in enumerate(roads(upper, other, two)):
                told[many + 1] += count
    return told


def product(row, other):
    """The product of two rows, as sums of powers are multiplied."""
    told = [0] * (len(row) + len(other) - 1)
    for i, entry in enumerate(row):
        for j, factor in enumerate(other):
            told[i + j] += entry * factor
    return told


def added(row, other):
    """Two rows, added up."""
    return [one + more for one, more in itertools.zip_longest(row, other, fillvalue=0)]


def with_length(row, many):
    """The row with noughts behind it, up to so many entries."""
    return row + [0] * (many - len(row))


def steep(order, other):
    """The steep row, by multiplying out."""
    told = [0]
    long = height(other) - height(order)
    for many, count in enumerate(roads(order, other, (0, 0))):
        if count:
            row = [count]
            for _ in range(many):
                row = product(row, [-1, 1])
            for _ in range((long - many) // 2):
                row = product(row, [0, 1])
            told = added(told, row)
    return with_length(told, long + 1)


def falls_rows(order, other):
    """All rows that [85] tells, whichever fall of the other one is taken, as tuples."""
    if order not in below(other):
        return {(0,) * 12}
    if order == other:
        return {(1,) + (0,) * 11}
    told = set()
    for place in range(len(other) - 1):
        if other[place] > other[place + 1]:
            lower, low = with_exchange(order, place, place + 1), with_exchange(other, place, place + 1)
            for row in cached_falls_rows(lower, low):
                if order[place] > order[place + 1]:
                    told.add(row)
                else:
                    for more in cached_falls_rows(order, low):
                        told.add(tuple(one + two for one, two in zip(row, (0, *more[:-1]))))
    return told


cached_falls_rows = functools.lru_cache(None)(falls_rows)


def between(order, other):
    """All orders between, both ends too."""
    return [one for one in below(other) if order in below(one)]


def fits_the_rule(order, other, row):
    """Whether the row is the Lusztig row by the rule of [87], if those of all others are told rightly."""
    long = height(other) - height(order)
    if order == other:
        return row == [1]
    total = [0]
    for one in between(order, other):
        ahead = row if one == order else lusztig(one, other)
        total = added(total, product(steep(order, one), ahead))
    turned_row = with_length(row, long + 1)[::-1]
    return row[-1] != 0 and 2 * (len(row) - 1) < long and with_length(total, long + 1) == turned_row


class Examples(Case):
    def test_examples(self):
        self.same(
            [roads_row([1, 2, 3], [3, 2, 1]), falls_row([1, 2, 3], [3, 2, 1]), steep_row([1, 2, 3], [3, 2, 1])],
            [[0, 1, 0, 1], [0, 1, 0, 1], [-1, 2, -2, 1]],
        )
        self.same(
            [lusztig([1, 3, 2, 4], [3, 4, 1, 2]), lusztig([2, 1, 3], [3, 2, 1]), is_trivial([3, 4, 1, 2]), is_trivial([4, 3, 2, 1])],
            [[1, 1], [1], False, True],
        )


class Roads(Case):
    def test_roads_row(self):
        for order, other in FEW + some_of_five(29):
            self.tells(roads(order, other, (0, 0)), roads_row, order=order, other=other)
        self.tells(roads((1, 2, 3, 4, 5), (5, 4, 3, 2, 1), (0, 0)), roads_row, order=(1, 2, 3, 4, 5), other=(5, 4, 3, 2, 1))

    def test_entries(self):
        for order, other in FEW + some_of_five(11):
            row = roads_row(order, other)
            long = height(other) - height(order)
            self.assertEqual((len(row), row[-1]), (long + 1, 1))
            self.assertTrue(all(count == 0 for many, count in enumerate(row) if (long - many) % 2))

    def test_falls_row_whichever_fall_is_taken(self):
        for order, other in FEW + some_of_five(29):
            found = cached_falls_rows(order, other)
            self.assertEqual(len(found), 1)
            want = list(min(found))
            self.tells(want[:height(other) - height(order) + 1], falls_row, order=order, other=other)
            self.assertFalse(any(want[height(other) - height(order) + 1:]))

    def test_both_are_alike(self):
        for order, other in FEW + some_of_five(3):
            self.assertEqual(falls_row(order, other), roads_row(order, other))


class Steep(Case):
    def test_written_out_in_powers(self):
        for order, other in FEW + some_of_five(29):
            self.tells(steep(order, other), steep_row, order=order, other=other)

    def test_turned_about_its_signs_are_by_the_length(self):
        for order, other in FEW + some_of_five(11):
            row = steep_row(order, other)
            sign = -1 if (len(row) - 1) % 2 else 1
            self.assertEqual(row[::-1], [sign * entry for entry in row])
            self.assertEqual((len(row), row[-1]), (height(other) - height(order) + 1, 1))


class Lusztig(Case):
    def test_by_the_rule(self):
        for order, other in FEW + some_of_five(83):
            row = lusztig(order, other)
            self.assertTrue(fits_the_rule(order, other, row), (order, other, row))
        for other in ((3, 4, 1, 2), (4, 2, 3, 1), (4, 5, 1, 2, 3), (5, 2, 3, 4, 1), (4, 5, 3, 1, 2), (5, 3, 4, 1, 2)):
            for order in sorted(below(other))[::9]:
                self.assertTrue(fits_the_rule(order, other, lusztig(order, other)), (order, other))

    def test_given(self):
        for other in FEW[-24:]:
            self.tells([1], lusztig, order=other[1], other=other[1])
        for order, other in (((1, 3, 2, 4), (3, 4, 1, 2)), ((1, 2, 3, 4), (3, 4, 1, 2)), ((1, 2, 3, 4), (4, 2, 3, 1))):
            self.tells([1, 1], lusztig, order=order, other=other)
        self.tells([1, 2, 1], lusztig, order=(1, 2, 3, 4, 5), other=(5, 2, 3, 4, 1))
        self.tells([1, 0, 1], lusztig, order=(1, 2, 3, 4, 5), other=(4, 5, 3, 1, 2))
        self.tells([1], lusztig, order=(1, 2, 3, 4, 5), other=(5, 4, 3, 2, 1))

    def test_entries(self):
        for order, other in FEW + some_of_five(7):
            row = lusztig(order, other)
            self.assertEqual(row[0], 1)
            self.assertTrue(all(entry.__class__ is int and entry >= 0 for entry in row) and row[-1] > 0)
            long = height(other) - height(order)
            self.assertTrue(long == 0 or 2 * (len(row) - 1) < long)
            self.assertTrue(long > 2 or row == [1])

    def test_trivial_exactly_if_even(self):
        for order in orders_up_to(5):
            self.tells(is_even(order), is_trivial, order=order)
            self.assertIs(lusztig(tuple(range(1, len(order) + 1)), order) == [1], is_even(order))

    def test_undone_and_turned_ends_alike(self):
        for order, other in FEW + some_of_five(13):
            for moved in (undone, turned):
                self.assertEqual(lusztig(moved(order), moved(other)), lusztig(order, other))
                self.assertEqual(roads_row(moved(order), moved(other)), roads_row(order, other))
                self.assertEqual(steep_row(moved(order), moved(other)), steep_row(order, other))


class Edges(Case):
    def test_alike_ends(self):
        for order in orders_up_to(3) + [(5, 4, 3, 2, 1), (1, 2, 3, 4, 5), (3, 5, 1, 4, 2)]:
            for function in ALL:
                self.tells([1], function, order=order, other=order)

    def test_five_things_in_a_second(self):
        dice = random.Random(86)
        given = [((1, 2, 3, 4, 5), other) for other in ((5, 4, 3, 2, 1), (5, 2, 3, 4, 1), (4, 5, 3, 1, 2), (5, 3, 4, 1, 2))]
        for order, other in given + [(drawn_below(dice, other), other) for other in orders_of(5)[::17]]:
            for function in ALL:
                began = time.perf_counter()
                function(order, other)
                self.assertLess(time.perf_counter() - began, 1)


class Wrong(Case):
    def test_no_orders(self):
        for function in ALL:
            for other in ((2, 3, 1), (1, 2), (1, 2, 3)):
                self.wrong(function, {"order": [1, 2, 3], "other": other}, BOTH)
        self.wrong(is_trivial, {"order": [1, 2, 3]}, BOTH[:1])

    def test_unlike_sizes_ahead_of_not_below(self):
        for function in ALL:
            for order, other in (([2, 1], (1, 2, 3)), (FALLING, [1]), ((1,), list(NINE))):
                self.fails(UnlikeSizes, {}, function, order, other)
                self.fails(UnlikeSizes, {}, function, order=order, other=other)

    def test_not_below(self):
        for function in ALL:
            for other in orders_up_to(4):
                for order in orders_of(len(other)):
                    if order not in below(other):
                        self.fails(NotBelow, {}, function, order, list(other))
            self.fails(NotBelow, {}, function, order=[3, 4, 1, 2], other=(4, 2, 3, 1))

    def test_too_many_things_behind_not_below(self):
        for function in ALL:
            for order, other in ((NINE, FALLING), ((1, 2, 3, 4, 5, 6), [2, 1, 3, 4, 5, 6]), ([6, 5, 4, 3, 2, 1], (6, 5, 4, 3, 2, 1))):
                self.fails(TooMany, {"what": "things", "limit": 5}, function, order, other)
                self.fails(TooMany, {"what": "things", "limit": 5}, function, order=order, other=other)
            self.fails(NotBelow, {}, function, (2, 1, 3, 4, 5, 6), (1, 2, 3, 4, 5, 6))
        for order in (NINE, [1, 2, 3, 4, 5, 6]):
            self.fails(TooMany, {"what": "things", "limit": 5}, is_trivial, order)
            self.fails(TooMany, {"what": "things", "limit": 5}, is_trivial, order=order)
