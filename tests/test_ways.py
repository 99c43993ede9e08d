"""[66] and [67]: exchanges that stay below, uneven papers."""

import itertools
import random
import time

from lowerboards.corners import over
from lowerboards.errors import InvalidOrder, NotBelow, UnlikeSizes
from lowerboards.four import is_even
from lowerboards.levels import level_row
from lowerboards.ways import bottom_ways, is_uneven_paper, uneven_paper, ways_at
from tests.helper import (
    ANYTHING, FOUR, NO_ORDERS, Case, come_of, drawn_order, orders_of, orders_up_to, pairs_wrong, with_exchange, with_things_put_in,
)

NINE = tuple(range(1, 10))
FALLING = tuple(range(9, 0, -1))
MIXED = (5, 9, 3, 1, 8, 2, 7, 6, 4)
UNEVEN = [(3, 4, 1, 2), (4, 2, 3, 1)]
NAMED = FOUR[:3] + [(4, 5, 3, 1, 2), (5, 4, 3, 2, 1), (1, 2, 3, 4, 5), (2, 3, 4, 5, 1), (5, 2, 3, 4, 1)]
ENOUGH = orders_up_to(4) + NAMED + [longer for way in UNEVEN for longer in with_things_put_in(way)[::7]]
LARGE = [NINE, FALLING, MIXED, (1, 2, 3, 4, 5, 8, 9, 6, 7), (9, 2, 3, 4, 5, 6, 7, 8, 1), (2, 3, 4, 5, 6, 7, 8, 9, 1)]
BOTH = [("order", InvalidOrder, NO_ORDERS), ("other", InvalidOrder, NO_ORDERS)]


def exchanges(size):
    """All exchanges of places, sorted."""
    return list(itertools.combinations(range(size), 2))


def staying(order, lower):
    """The exchanges that, done on the order, lead to one of the lower orders."""
    return [(i, j) for i, j in exchanges(len(order)) if with_exchange(order, i, j) in lower]


def as_lists(paper):
    """The same paper as a list, as a tuple, backward."""
    return [list(paper), tuple(paper), list(paper)[::-1]]


class Examples(Case):
    def test_examples(self):
        self.same(
            [ways_at((1, 3, 2), (2, 3, 1)), bottom_ways((3, 4, 1, 2)), uneven_paper((3, 2, 1))],
            [[(0, 2), (1, 2)], [(0, 1), (0, 2), (1, 2), (1, 3), (2, 3)], None],
        )
        self.assertIs(is_uneven_paper((3, 4, 1, 2), [(0, 2), (1, 3), (0, 1), (2, 3), (1, 2)]), True)


class Ways(Case):
    def test_ways_at(self):
        for other in ENOUGH:
            lower = come_of(other)
            for order in sorted(lower)[::1 if len(other) < 5 else 3]:
                self.tells(staying(order, lower), ways_at, order=order, other=other)

    def test_never_fewer_than_the_level_and_as_many_everywhere_exactly_if_even(self):
        for other in orders_up_to(4) + NAMED + orders_of(5)[::13]:
            own = len(pairs_wrong(other))
            found = {order: len(ways_at(order, other)) for order in come_of(other)}
            self.assertEqual((min(found.values()), found[other]), (own, own))
            self.assertIs(set(found.values()) == {own}, is_even(other))
            self.assertIs(found[tuple(range(1, len(other) + 1))] == own, is_even(other))

    def test_bottom_ways(self):
        for order in ENOUGH + orders_of(5)[::7]:
            self.tells(staying(tuple(range(1, len(order) + 1)), come_of(order)), bottom_ways, order=order)
        self.tells([], bottom_ways, order=[1])
        self.tells([], bottom_ways, order=NINE)
        self.tells(exchanges(9), bottom_ways, order=FALLING)
        self.tells(exchanges(9), ways_at, order=FALLING, other=FALLING)
        self.tells(exchanges(9), ways_at, order=MIXED, other=FALLING)
        self.tells([], ways_at, order=NINE, other=NINE)
        self.tells([(5, 6), (5, 7), (6, 7), (6, 8), (7, 8)], bottom_ways, order=LARGE[3])

    def test_nine_things_in_a_second(self):
        for order in LARGE:
            for function, given in ((bottom_ways, [order]), (uneven_paper, [order]), (ways_at, [order, FALLING]), (ways_at, [NINE, order])):
                began = time.perf_counter()
                function(*given)
                self.assertLess(time.perf_counter() - began, 1)


class Papers(Case):
    def test_uneven_paper(self):
        for order in ENOUGH + LARGE:
            for given in (order, list(order)):
                found = uneven_paper(given)
                self.assertIs(found is None, is_even(order))
                if found is not None:
                    self.assertIs(found.__class__, list)
                    self.assertTrue(all(pair.__class__ is tuple for pair in found))
                    self.assertGreater(len(set(found)), len(pairs_wrong(order)))
                    self.assertIs(is_uneven_paper(given, found), True)
                    self.assertIsNot(uneven_paper(given), found)
                    if len(order) < 7:
                        self.assertLessEqual(set(found), set(staying(tuple(range(1, len(order) + 1)), come_of(order))))
                self.same(uneven_paper(order=given), found)

    def test_there_is_one_exactly_if_the_counts_are_unlike(self):
        for order in orders_up_to(5):
            row = level_row(order)
            self.assertIs(uneven_paper(order) is not None, row != row[::-1])

    def test_is_uneven_paper(self):
        for order in orders_of(4) + NAMED[:1] + [(1, 2, 4, 3, 5)]:
            fitting = staying(tuple(range(1, len(order) + 1)), come_of(order))
            most = len(pairs_wrong(order))
            for many in range(len(exchanges(len(order))) + 1):
                for pairs in list(itertools.combinations(exchanges(len(order)), many))[::1 if len(order) < 5 else 5]:
                    want = many > most and set(pairs) <= set(fitting)
                    self.asks(*(([], as_lists(pairs)), (as_lists(pairs), []))[want], is_uneven_paper, order=order)

    def test_some_or_all_of_them_in_any_sequence(self):
        order = LARGE[4]
        fitting = bottom_ways(order)
        most = len(pairs_wrong(order))
        self.assertGreater(len(fitting), most + 1)
        right = [fitting[:most + 1], fitting[-most - 1:], fitting[::-1], fitting]
        wrong = [fitting[:most], fitting[:most] + fitting[:1], fitting[:most] * 2, fitting + fitting[:1], fitting + [(0, 0)]]
        self.asks(right + [tuple(fitting)], wrong, is_uneven_paper, order=order)

    def test_is_uneven_paper_of_any_value(self):
        order = (3, 4, 1, 2)
        paper = [(0, 1), (0, 2), (1, 2), (1, 3), (2, 3)]
        wrong = ANYTHING + [paper[:-1], paper[1:], paper + [(0, 3)], paper + [paper[0]], paper[:4] * 2, [paper], (paper, paper), "0102121323"]
        wrong += [{pair: True for pair in paper}, set(paper), [list(pair) for pair in paper], paper + [None], paper + [()], ["thing"] * 5]
        for at, (i, j) in enumerate(paper):
            others = [
                [i, j], (j, i), (i, i), (i,), (i, j, j), (i == 1, j), (i, j == 1), (i, True), (False, j), (str(i), j), (i, None), (i, -1),
                (i - 4, j), (i, j - 4), (i, 4), (i, [j]), ((i, j),), None, i, (0, 3), (i, 10 ** 29), paper[at - 1],
            ]
            wrong += [paper[:at] + [other] + paper[at + 1:] for other in others]
        self.asks([paper, tuple(paper), paper[::-1]], wrong, is_uneven_paper, order=order)
        self.asks([], ANYTHING + [paper], is_uneven_paper, order=[1])
        self.asks([], ANYTHING + [[(0, 1)], [(0, 1), (0, 1)], [(0, 1), (1, 2)]], is_uneven_paper, order=[2, 1, 3])


class ManyQuestions(Case):
    def test_bottom_ways_of_six_to_nine_things_by_corners(self):
        dice = random.Random(67)
        for order in LARGE + orders_of(6)[::7] + [drawn_order(dice, size) for size in (7, 7, 8, 8, 9, 9, 9)]:
            rising = tuple(range(1, len(order) + 1))
            fitting = [(i, j) for i, j in exchanges(len(order)) if over(with_exchange(rising, i, j), order) is None]
            self.assertEqual(bottom_ways(order), fitting)

    def test_a_few_hundred_about_nine_things_end_within_a_second(self):
        asked = 0
        began = time.perf_counter()
        for order in LARGE + [(4, 5, 3, 1, 2, 9, 8, 7, 6)]:
            found = uneven_paper(order) or bottom_ways(order)
            rows = [found, found[1:], found[:-1], found + found[:1], found * 2, found[::-1], found + [(0, 8)], [list(pair) for pair in found]]
            rows += [exchanges(9), exchanges(9)[1:], exchanges(9) * 2, [(j, i) for i, j in found], found + [None],
                found[:3] + [(True, 2)] + found[3:]]
            for value in [kind(row) for row in rows for kind in (list, tuple)] + [None, 7, True, "(0, 1)", {}] * 5:
                is_uneven_paper(order, value)
                asked += 1
            for _ in range(20):
                uneven_paper(order)
                asked += 1
        self.assertGreater(asked, 400)
        self.assertLess(time.perf_counter() - began, 1)

    def test_values_that_are_no_list_or_too_short_take_no_longer_than_the_level(self):
        began = time.perf_counter()
        for _ in range(2000):
            for value in (None, 7, "(0, 1)", {}, [], exchanges(9)):
                self.assertIs(is_uneven_paper(FALLING, value), False)
        self.assertLess(time.perf_counter() - began, 1)


class Wrong(Case):
    def test_no_orders(self):
        for function in (bottom_ways, uneven_paper):
            self.wrong(function, {"order": [3, 1, 2]}, BOTH[:1])
        for value in (None, [(0, 1)]):
            self.wrong(is_uneven_paper, {"order": [3, 1, 2], "value": value}, BOTH[:1])
        for other in ((3, 1, 2), (1, 2), (1, 2, 3)):
            self.wrong(ways_at, {"order": [1, 3, 2], "other": other}, BOTH)

    def test_unlike_sizes_ahead_of_not_below(self):
        for order, other in (([2, 1], (1, 2, 3)), (FALLING, [1]), ((1,), list(NINE))):
            self.fails(UnlikeSizes, {}, ways_at, order, other)
            self.fails(UnlikeSizes, {}, ways_at, order=order, other=other)

    def test_not_below(self):
        for other in orders_up_to(4):
            lower = come_of(other)
            for order in orders_of(len(other)):
                if order not in lower:
                    self.fails(NotBelow, {}, ways_at, order, list(other))
                    self.fails(NotBelow, {}, ways_at, order=list(order), other=other)
        self.fails(NotBelow, {}, ways_at, FALLING, NINE)
        self.fails(NotBelow, {}, ways_at, [3, 4, 1, 2], [4, 2, 3, 1])
