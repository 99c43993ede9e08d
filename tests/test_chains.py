"""[82] and [83]: labels of exchanges that lead upward, and chains of single steps."""

import itertools
import random
import time

from lowerboards.chains import falling_chain, how_many_chains, label, rising_chain
from lowerboards.errors import InvalidOrder, NotBelow, NotOne, TooMany, UnlikeSizes
from lowerboards.orders import turned, undone
from tests.helper import (
    FOUR, NO_ORDERS, Case, come_of, drawn_below, drawn_order, orders_of, orders_up_to, pairs_wrong, with_exchange,
)

NINE = tuple(range(1, 10))
FALLING = tuple(range(9, 0, -1))
MIXED = (5, 9, 3, 1, 8, 2, 7, 6, 4)
BOTH = [("order", InvalidOrder, NO_ORDERS), ("other", InvalidOrder, NO_ORDERS)]
CHAINS = (rising_chain, falling_chain)


def upward(order):
    """All exchanges that lead upward: the label and the order behind it, sorted by the labels."""
    told = []
    for i, j in itertools.combinations(range(len(order)), 2):
        if order[i] < order[j]:
            told.append(((order[i], order[j]), with_exchange(order, i, j)))
    return sorted(told)


def single(order):
    """The single steps: the label and the order behind it."""
    return [(two, upper) for two, upper in upward(order) if len(pairs_wrong(upper)) == len(pairs_wrong(order)) + 1]


def all_chains(order, other, lower):
    """All chains, each a list of orders with the list of its labels; lower: what is below the other one."""
    if order == other:
        return [([order], [])]
    told = []
    for two, upper in single(order):
        if upper in lower:
            told += [([order, *orders], [two, *labels]) for orders, labels in all_chains(upper, other, lower)]
    return told


def rises(labels):
    """Whether each label is greater than the one ahead of it."""
    return all(one < following for one, following in itertools.pairwise(labels))


def stretches_up_to(size):
    """All pairs of orders of so many things of which the first one is below the second one."""
    return [(order, other) for other in orders_up_to(size) for order in sorted(come_of(other))]


class Examples(Case):
    def test_examples(self):
        self.same(
            [label([1, 2, 3], [3, 2, 1]), rising_chain([1, 2, 3], [2, 3, 1]), how_many_chains([1, 2, 3], [3, 2, 1])],
            [(1, 3), [(1, 2, 3), (2, 1, 3), (2, 3, 1)], 4],
        )
        self.same(falling_chain([1, 2, 3], [3, 2, 1]), [(1, 2, 3), (1, 3, 2), (3, 1, 2), (3, 2, 1)])


class Labels(Case):
    def test_label(self):
        for order in orders_up_to(4) + [(1, 2, 3, 4, 5), (2, 5, 1, 4, 3)]:
            found = {upper: two for two, upper in upward(order)}
            for other in orders_of(len(order)):
                if other in found:
                    self.tells(found[other], label, order=order, other=other)
                    self.assertEqual((len(pairs_wrong(other)) - len(pairs_wrong(order))) % 2, 1)
                else:
                    self.fails(NotOne, {}, label, order, list(other))
                    self.fails(NotOne, {}, label, order=list(order), other=other)

    def test_up_by_one_by_three_by_five(self):
        self.tells((1, 2), label, order=[1, 2, 3, 4], other=[2, 1, 3, 4])
        self.tells((1, 3), label, order=[1, 2, 3, 4], other=[3, 2, 1, 4])
        self.tells((1, 4), label, order=[1, 2, 3, 4], other=[4, 2, 3, 1])
        self.tells((1, 4), label, order=[3, 1, 4, 2], other=[3, 4, 1, 2])
        self.tells((2, 9), label, order=(1, 2, 3, 4, 5, 6, 7, 8, 9), other=(1, 9, 3, 4, 5, 6, 7, 8, 2))
        self.tells((1, 9), label, order=NINE, other=(9, 2, 3, 4, 5, 6, 7, 8, 1))
        self.tells((1, 2), label, order=[1, 2], other=[2, 1])

    def test_not_one(self):
        given = [
            ([1], (1,)), (NINE, NINE), (FALLING, NINE), (NINE, FALLING), ((2, 1), [1, 2]), ([1, 2, 3], [2, 3, 1]), ([2, 1, 4, 3], [1, 2, 3, 4]),
            ([1, 2, 3, 4], [2, 1, 4, 3]), ((3, 2, 1), (1, 2, 3)), ([3, 4, 1, 2], [4, 2, 3, 1]),
        ]
        for order, other in given:
            self.fails(NotOne, {}, label, order, other)
            self.fails(NotOne, {}, label, order=order, other=other)


class Chains(Case):
    def test_the_one_that_rises_and_the_one_that_falls(self):
        for order, other in stretches_up_to(4):
            found = all_chains(order, other, come_of(other))
            rising = [orders for orders, labels in found if rises(labels)]
            falling = [orders for orders, labels in found if rises(labels[::-1])]
            self.assertEqual((len(rising), len(falling)), (1, 1))
            self.tells(rising[0], rising_chain, order=order, other=other)
            self.tells(falling[0], falling_chain, order=order, other=other)
            self.tells(len(found), how_many_chains, order=order, other=other)

    def test_of_five_and_six_things(self):
        dice = random.Random(84)
        for other in orders_of(5)[::3] + FOUR[1:]:
            order = drawn_below(dice, other)
            if len(pairs_wrong(other)) - len(pairs_wrong(order)) > 6:
                continue
            found = all_chains(order, other, come_of(other))
            self.tells([orders for orders, labels in found if rises(labels)][0], rising_chain, order=order, other=other)
            self.tells([orders for orders, labels in found if rises(labels[::-1])][0], falling_chain, order=order, other=other)
            self.tells(len(found), how_many_chains, order=order, other=other)

    def test_of_nine_things(self):
        dice = random.Random(85)
        given = [(NINE, FALLING), (NINE, MIXED), (MIXED, FALLING), ((1, 2, 3, 4, 5, 6, 7, 8), (8, 7, 6, 5, 4, 3, 2, 1))]
        given += [(drawn_below(dice, other), other) for other in [FALLING, MIXED, *[drawn_order(dice, size) for size in (7, 8, 9, 9)]]]
        for order, other in given:
            for function, step in ((rising_chain, 1), (falling_chain, -1)):
                found = function(order, other)
                self.tells(found, function, order=order, other=other)
                self.assertEqual((found[0], found[-1]), (order, other))
                labels = []
                for lower, upper in itertools.pairwise(found):
                    self.assertEqual(len(pairs_wrong(upper)), len(pairs_wrong(lower)) + 1)
                    labels += [two for two, one in upward(lower) if one == upper]
                self.assertEqual(len(labels), len(found) - 1)
                self.assertTrue(rises(labels[::step]))

    def test_alike_ends(self):
        for order in orders_up_to(3) + FOUR + [NINE, FALLING, MIXED]:
            for function in CHAINS:
                self.tells([order], function, order=order, other=order)
            if len(order) < 7:
                self.tells(1, how_many_chains, order=order, other=order)

    def test_how_many_of_six_things(self):
        six, falling = (1, 2, 3, 4, 5, 6), (6, 5, 4, 3, 2, 1)
        ways = {six: 1}
        for _ in range(15):
            more = {}
            for order, count in ways.items():
                for _, upper in single(order):
                    more[upper] = more.get(upper, 0) + count
            ways = more
        self.tells(ways[falling], how_many_chains, order=six, other=falling)
        for other in ((5, 6, 3, 4, 1, 2), (4, 6, 2, 5, 1, 3)):
            for moved in (undone, turned):
                self.assertEqual(how_many_chains(six, other), how_many_chains(six, moved(other)))

    def test_in_a_second(self):
        given = [(rising_chain, NINE, FALLING), (falling_chain, NINE, FALLING), (label, NINE, (9, 2, 3, 4, 5, 6, 7, 8, 1))]
        for function, order, other in given + [(how_many_chains, (1, 2, 3, 4, 5, 6), (6, 5, 4, 3, 2, 1))]:
            began = time.perf_counter()
            function(order, other)
            self.assertLess(time.perf_counter() - began, 1)


class Wrong(Case):
    def test_no_orders(self):
        for function in (label, how_many_chains, *CHAINS):
            for other in ((2, 1, 3), (1, 2), (3, 1, 2)):
                self.wrong(function, {"order": [1, 2, 3], "other": other}, BOTH)

    def test_unlike_sizes(self):
        for function in (label, how_many_chains, *CHAINS):
            for order, other in (([2, 1], (1, 2, 3)), (FALLING, [1]), ((1,), list(NINE))):
                self.fails(UnlikeSizes, {}, function, order, other)
                self.fails(UnlikeSizes, {}, function, order=order, other=other)

    def test_not_below(self):
        for function in (how_many_chains, *CHAINS):
            for other in orders_up_to(4):
                lower = come_of(other)
                for order in orders_of(len(other)):
                    if order not in lower:
                        self.fails(NotBelow, {}, function, order, list(other))
            self.fails(NotBelow, {}, function, order=FALLING, other=NINE)

    def test_too_many_things(self):
        for order, other in ((NINE, FALLING), (MIXED, MIXED), ([1, 2, 3, 4, 5, 6, 7], (2, 1, 3, 4, 5, 6, 7))):
            self.fails(TooMany, {"what": "things", "limit": 6}, how_many_chains, order, other)
            self.fails(TooMany, {"what": "things", "limit": 6}, how_many_chains, order=order, other=other)
        self.fails(NotBelow, {}, how_many_chains, FALLING, NINE)
