"""[75] to [77]: growings, knot orders, and the numbers of places in their knots."""

import itertools
import math
import random
import time

from lowerboards.errors import InvalidGrowing, InvalidOrder
from lowerboards.four import is_even
from lowerboards.growing import growing, growths, is_growing, is_knot_order, knot_order, knots
from lowerboards.regions import step_row
from lowerboards.signings import how_many_signings
from lowerboards.standing import stands
from tests.helper import (
    ANYTHING, FOUR, NO_ORDERS, Case, all_standings, drawn_order, orders_of, orders_up_to, pairs_wrong, with_changes, with_things_put_in,
)

NINE = tuple(range(1, 10))
FALLING = tuple(range(9, 0, -1))
MIXED = (5, 9, 3, 1, 8, 2, 7, 6, 4)
LARGE = [
    NINE, FALLING, MIXED, (2, 3, 4, 5, 6, 7, 8, 9, 1), (9, 1, 2, 3, 4, 5, 6, 7, 8), (2, 1, 4, 3, 6, 5, 8, 7, 9), (2, 4, 3, 1, 5, 9, 8, 7, 6),
    (1, 2, 3, 4, 5, 8, 9, 6, 7), (1, 2, 9, 4, 5, 6, 7, 3, 8), (9, 2, 3, 4, 5, 6, 7, 8, 1), (4, 5, 6, 7, 8, 9, 1, 2, 3),
]
NO_ORDER = ("order", InvalidOrder, NO_ORDERS)


def knots_of(order, places):
    """For each place of the list the places ahead of it that are tied to it."""
    ties = pairs_wrong(order)
    return [[one for one in places[:at] if (min(one, place), max(one, place)) in ties] for at, place in enumerate(places)]


def are_tied(order, knot):
    """Whether all places of the knot are tied to one another."""
    return all(tuple(sorted(pair)) in pairs_wrong(order) for pair in itertools.combinations(knot, 2))


def is_outer(order, place, knot):
    """Whether the place's thing is greater, or less, than all things of the knot."""
    things = [order[one] for one in knot]
    return all(order[place] > thing for thing in things) or all(order[place] < thing for thing in things)


def is_knot_order_of(order, places):
    """Whether all places, each once, are a knot order, by the words of the document."""
    return all(are_tied(order, knot) for knot in knots_of(order, places))


def is_growing_of(order, places):
    """Whether all places, each once, are a growing, by the words of the document."""
    outer = all(is_outer(order, place, knot) for place, knot in zip(places, knots_of(order, places)))
    return outer and is_knot_order_of(order, places)


def product_of_ones(numbers):
    """The product of rows of ones, with one more than each number tells."""
    row = [1]
    for number in numbers:
        size = len(row) + number
        row = [sum(row[at - ahead] for ahead in range(number + 1) if 0 <= at - ahead < len(row)) for at in range(size)]
    return row


BOTH = [(growing, is_growing, growths, is_growing_of), (knot_order, is_knot_order, knots, is_knot_order_of)]


class Examples(Case):
    def test_examples(self):
        self.same(
            [
                growths([3, 2, 1], [0, 1, 2]), growing([4, 2, 3, 1]), is_knot_order([4, 2, 3, 1], [0, 3, 1, 2]),
                knots([4, 2, 3, 1], (0, 3, 1, 2)),
            ],
            [[0, 1, 2], None, True, [0, 1, 2, 2]],
        )


class Found(Case):
    def found(self, order, made, is_one, numbers, holds):
        """What is told is one, new, and None is told exactly if it has to be."""
        for kind in (list, tuple):
            given = kind(order)
            places = made(given)
            self.same(made(order=given), places)
            self.same(given, kind(order))
            if places is not None:
                self.assertIs(places.__class__, list)
                self.assertTrue(all(place.__class__ is int for place in places))
                self.assertEqual(sorted(places), list(range(len(order))))
                self.assertTrue(holds(order, places))
                self.assertIs(is_one(given, places), True)
                self.assertIsNot(made(given), places)
                self.same(numbers(given, places), [len(knot) for knot in knots_of(order, places)])
        return places

    def test_against_all_sequences_of_the_places(self):
        for made, is_one, numbers, holds in BOTH:
            for order in orders_up_to(5):
                rows = list(itertools.permutations(range(len(order))))
                right = [row for row in rows if holds(order, row)]
                self.assertIs(self.found(order, made, is_one, numbers, holds) is None, not right)
                for row in rows:
                    self.assertIs(is_one(order, row), row in right)

    def test_a_growing_exactly_if_even(self):
        dice = random.Random(75)
        drawn = [drawn_order(dice, size) for size in (6, 7, 8, 9) for _ in range(20)]
        for order in orders_up_to(5) + orders_of(6) + FOUR + LARGE + drawn + [one for way in FOUR for one in with_things_put_in(way)]:
            self.assertIs(growing(order) is not None, is_even(order))
            self.assertIs(knot_order(order) is not None, not all_standings(order, (3, 4, 1, 2)))

    def test_more_things(self):
        for made, is_one, numbers, holds in BOTH:
            for order in orders_of(6)[::17] + FOUR + LARGE:
                self.found(order, made, is_one, numbers, holds)
        self.same([growing([1]), knot_order([1]), growths([1], [0]), knots((1,), (0,))], [[0], [0], [0], [0]])
        self.same(growths(FALLING, list(range(9))), list(range(9)))
        self.same(knots(NINE, list(range(9))), [0] * 9)

    def test_no_growing_where_4231_stands_but_a_knot_order(self):
        for order in [(4, 2, 3, 1), LARGE[9]]:
            self.assertIsNone(growing(order))
            self.assertIsNotNone(knot_order(order))
        for order in [(3, 4, 1, 2), LARGE[10], FOUR[1], FOUR[2], FOUR[3]]:
            self.assertIsNone(growing(order))
            self.assertIsNone(knot_order(order))


class Facts(Case):
    def test_the_step_row_is_the_product_of_the_growths(self):
        for order in orders_up_to(5) + [(6, 5, 4, 3, 2, 1), *orders_of(6)[::61]]:
            if growing(order) is not None:
                self.assertEqual(product_of_ones(growths(order, growing(order))), step_row(order))
        for order in orders_of(4):
            for row in itertools.permutations(range(4)):
                if is_growing(order, row):
                    self.assertEqual(product_of_ones(growths(order, row)), step_row(order))

    def test_the_number_of_signings_is_the_product_of_the_knots(self):
        for order in orders_up_to(5) + LARGE + orders_of(6)[::13]:
            if knot_order(order) is not None:
                self.assertEqual(math.prod(many + 1 for many in knots(order, knot_order(order))), how_many_signings(order))
        for order in orders_of(4):
            for row in itertools.permutations(range(4)):
                if is_knot_order(order, row):
                    self.assertEqual(math.prod(many + 1 for many in knots(order, row)), how_many_signings(order))

    def test_a_knot_order_exactly_if_3412_does_not_stand(self):
        for order in orders_up_to(5):
            self.assertIs(knot_order(order) is None, stands(order, (3, 4, 1, 2)) is not None)


class Numbers(Case):
    def test_of_lists_and_tuples(self):
        for _, is_one, numbers, holds in BOTH:
            for order in orders_up_to(4):
                for row in itertools.permutations(range(len(order))):
                    for kind in (list, tuple):
                        given = (kind(order), kind(row))
                        if holds(order, row):
                            want = [len(knot) for knot in knots_of(order, row)]
                            self.same(numbers(*given), want)
                            self.same(numbers(order=given[0], value=given[1]), want)
                            self.assertIsNot(numbers(*given), numbers(*given))
                        else:
                            self.fails(InvalidGrowing, {"value": given[1]}, numbers, *given)
                            self.fails(InvalidGrowing, {"value": given[1]}, numbers, order=given[0], value=given[1])
                        self.same(given, (kind(order), kind(row)))

    def test_any_value(self):
        wrong = ANYTHING + [
            [0, 1], [0, 1, 2, 3], [0, 1, 1], [0, 0, 1], [1, 2, 3], [-1, 0, 1], [0, 1, -1], [False, 1, 2], [0, True, 2], (0, True, 2),
            [0, 1, "2"], [0, 1, None], [0, 1, [2]], [[0, 1, 2]], [(0, 1, 2)], "012", b"\x00\x01\x02", {0: 0, 1: 1, 2: 2}, {0, 1, 2},
            [0, 1, 10 ** 29], [0, 1, 2, 2], [0, 1, 2, None], [[0], [1], [2]],
        ]
        self.asks([[0, 1, 2], (0, 1, 2), [2, 1, 0], (1, 0, 2)], wrong + [[0, 2, 1], [2, 0, 1]], is_growing, order=[3, 2, 1])
        self.asks([[0, 1, 2], (0, 1, 2), [0, 2, 1]], wrong, is_knot_order, order=[3, 2, 1])
        self.asks([[0], (0,)], ANYTHING + [[1], [0, 0], [False], (True,), "0"], is_growing, order=[1])
        self.asks([[0], (0,)], ANYTHING + [[1], [0, 0], [False], (True,), "0"], is_knot_order, order=[1])
        for function in (growths, knots):
            self.wrong(function, {"order": [3, 2, 1], "value": [0, 1, 2]}, [NO_ORDER, ("value", InvalidGrowing, wrong)])
        for order in ((3, 4, 1, 2), (4, 2, 3, 1)):
            for row in itertools.permutations(range(4)):
                self.fails(InvalidGrowing, {"value": row}, growths, order, row)

    def test_changed_ones(self):
        for _, is_one, _, holds in BOTH:
            for order in LARGE[:6]:
                for places in with_changes(range(9), [0, 9, True])[::7]:
                    want = sorted(places) == list(range(9)) and holds(order, places) and not any(one is True for one in places)
                    self.assertIs(is_one(order, places), want)


class Wrong(Case):
    def test_no_orders(self):
        for function in (growing, knot_order):
            self.wrong(function, {"order": [3, 1, 2]}, [NO_ORDER])
        for function in (is_growing, is_knot_order):
            for value in (None, [0, 1, 2]):
                self.wrong(function, {"order": [3, 1, 2], "value": value}, [NO_ORDER])

    def test_nine_things_in_a_second(self):
        for order in LARGE:
            for function in (growing, knot_order):
                began = time.perf_counter()
                function(order)
                self.assertLess(time.perf_counter() - began, 1)
