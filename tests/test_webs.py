"""[51] and [52]: webs, rings along signings, colourings."""

import itertools
import time

from lowerboards.errors import InvalidMany, InvalidOrder, InvalidSigning
from lowerboards.webs import colour_row, colourings, is_ring_in, ring_in, web
from tests.helper import (
    ANYTHING, FOUR, NO_ORDERS, NO_SIGNINGS, Case, is_ringless_by_taking_away, orders_of, orders_up_to, pairs_wrong, signed,
    signings_of,
)

NINE = tuple(range(1, 10))
FALLING = tuple(range(9, 0, -1))
MIXED = (5, 9, 3, 1, 8, 2, 7, 6, 4)
NAMED = FOUR[1:3] + [(4, 5, 3, 1, 2), (3, 4, 5, 1, 2), (5, 2, 3, 4, 1), (1, 4, 3, 2, 5)]
LARGE = [NINE, FALLING, MIXED, (4, 5, 6, 7, 8, 9, 1, 2, 3), (2, 1, 4, 3, 6, 5, 8, 7, 9)]
NO_ORDER = ("order", InvalidOrder, NO_ORDERS)


def colours_given(order, many):
    """How many colourings there are, by going through all."""
    ties = pairs_wrong(order)
    given = itertools.product(range(many), repeat=len(order))
    return sum(all(colours[i] != colours[j] for i, j in ties) for colours in given)


def is_ring(order, signing, places):
    """Whether the places are a ring, by the words of the document."""
    led = signed(order, signing)
    steps = zip(places, (*places[1:], places[0]))
    return len(places) >= 3 and len(set(places)) == len(places) and all(step in led for step in steps)


def rows_of_places(size):
    """All rows of unlike places."""
    return [row for many in range(1, size + 1) for row in itertools.permutations(range(size), many)]


class Examples(Case):
    def test_examples(self):
        self.same(
            [web([3, 1, 2]), colour_row([3, 1, 2]), colourings((3, 2, 1), 3), ring_in([3, 2, 1], [0, 0, 0])],
            [[(0, 1), (0, 2)], [0, 1, -2, 1], 6, None],
        )
        self.same(
            [is_ring_in([3, 2, 1], [0, 1, 0], [1, 2, 0]), is_ring_in([3, 2, 1], [0, 1, 0], [2, 1, 0])], [True, False],
        )


class Webs(Case):
    def test_web(self):
        for order in orders_up_to(5) + LARGE + FOUR:
            self.tells(sorted(pairs_wrong(order)), web, order=order)
        self.tells([], web, order=NINE)

    def test_places_without_a_tie_hold_rising_things(self):
        for order in orders_up_to(4):
            untied = [pair for pair in itertools.combinations(range(len(order)), 2) if pair not in web(order)]
            self.assertTrue(all(order[i] < order[j] for i, j in untied))


class Colours(Case):
    def test_colour_row(self):
        # A sum of powers up to x ** n is told by its values at n + 1 numbers.
        for order in orders_up_to(4) + NAMED:
            row = colour_row(order)
            self.tells(row, colour_row, order=order)
            self.assertEqual(len(row), len(order) + 1)
            self.assertTrue(all(entry.__class__ is int for entry in row))
            for many in range(len(order) + 1):
                self.assertEqual(sum(entry * many ** at for at, entry in enumerate(row)), colours_given(order, many))

    def test_colourings(self):
        for order in orders_up_to(3) + orders_of(4)[::5] + NAMED[::3]:
            for many in range(5):
                self.tells(colours_given(order, many), colourings, order=order, many=many)

    def test_rows_of_one_thing_and_of_nine(self):
        self.tells([0, 1], colour_row, order=[1])
        self.tells([0] * 9 + [1], colour_row, order=NINE)
        self.tells([0, 40320, -109584, 118124, -67284, 22449, -4536, 546, -36, 1], colour_row, order=FALLING)
        self.tells([0, 0, 0, 0, 0, 1, -4, 6, -4, 1], colour_row, order=LARGE[4])

    def test_colourings_with_none_one_and_many(self):
        many = 10 ** 29 + 7
        self.tells(many ** 9, colourings, order=NINE, many=many)
        self.tells(many ** 5 * (many - 1) ** 4, colourings, order=LARGE[4], many=many)
        want = 1
        for used in range(9):
            want *= many - used
        self.tells(want, colourings, order=FALLING, many=many)
        for order in orders_up_to(4) + LARGE:
            self.tells(0, colourings, order=order, many=0)
            self.tells(0 if pairs_wrong(order) else 1, colourings, order=order, many=1)
        self.tells(0, colourings, order=FALLING, many=8)
        self.tells(362880, colourings, order=FALLING, many=9)

    def test_ringless_signings_are_told_by_minus_one(self):
        for order in orders_up_to(4) + NAMED[:5]:
            value = sum(entry * (-1) ** at for at, entry in enumerate(colour_row(order)))
            ringless = [signing for signing in signings_of(order) if is_ringless_by_taking_away(order, signing)]
            self.assertEqual(abs(value), len(ringless))

    def test_nine_things_in_a_second(self):
        for order in LARGE:
            began = time.perf_counter()
            colour_row(order)
            self.assertLess(time.perf_counter() - began, 1)


class Rings(Case):
    def rings(self, order, signing):
        """What ring_in tells is a ring, and None exactly if there is none."""
        for kind in (list, tuple):
            given = (kind(order), kind(signing))
            found = ring_in(*given)
            self.assertIs(found is None, is_ringless_by_taking_away(order, signing))
            if found is not None:
                self.assertIs(found.__class__, list)
                self.assertTrue(is_ring(order, signing, found))
                self.assertIs(is_ring_in(*given, found), True)
                self.assertIsNot(ring_in(*given), found)
            self.same(ring_in(order=given[0], signing=given[1]), found)
            self.same(given, (kind(order), kind(signing)))

    def test_ring_in(self):
        for order in orders_up_to(4) + NAMED:
            for signing in signings_of(order):
                self.rings(order, signing)

    def test_signings_of_nine_things(self):
        for order in LARGE:
            many = len(pairs_wrong(order))
            for step in range(1, 24):
                self.rings(order, [at * step % 7 % 2 for at in range(many)])
            for at in range(many):
                self.rings(order, [1 if at == other else 0 for other in range(many)])
            self.rings(order, [0] * many)
            self.rings(order, [1] * many)

    def test_a_ring_of_three_or_of_four_without_other_ties(self):
        for order in orders_of(4) + NAMED[:5]:
            ties = web(order)
            for signing in signings_of(order)[::3]:
                short = [row for row in rows_of_places(len(order)) if len(row) in (3, 4) and is_ring(order, signing, row)]
                across = [row for row in short if len(row) == 4 and not {tuple(sorted(row[::2])), tuple(sorted(row[1::2]))} & {*ties}]
                found = [row for row in short if len(row) == 3] + across
                self.assertIs(bool(found), ring_in(order, signing) is not None)

    def test_is_ring_in(self):
        for order in orders_of(3) + orders_of(4) + [(5, 4, 3, 2, 1), (4, 5, 3, 1, 2)]:
            rows = rows_of_places(len(order))
            for signing in signings_of(order)[::(1 if len(order) < 4 else 7 if len(order) == 4 else 173)]:
                right = [row for row in rows if is_ring(order, signing, row)]
                for row in rows:
                    self.assertIs(is_ring_in(order, signing, row), row in right)
                    self.assertIs(is_ring_in(list(order), tuple(signing), list(row)), row in right)

    def test_rings_of_four_and_longer_ones(self):
        # Two things greater than two others: four ties that go round, without one across.
        self.asks([[0, 2, 1, 3], [1, 3, 0, 2]], [[0, 3, 1, 2], [0, 2, 1]], is_ring_in, order=[3, 4, 1, 2], signing=[0, 1, 1, 0])
        ring = [0, 1, 2, 3, 4, 5, 6, 7, 8]
        signing = [1 if pair == (0, 8) else 0 for pair in web(FALLING)]
        turned_round = [ring[at:] + ring[:at] for at in range(9)]
        cut = [ring[:at] + ring[at + 1:] for at in range(1, 8)]
        self.asks(
            turned_round + cut + [tuple(ring), [0, 4, 8]],
            [ring[::-1], ring[:8], ring[1:], ring + [0], ring[:8] + [7], [0, 1, 2, 1, 8], [0, 8], [8, 0], [0, 4, 3, 8]],
            is_ring_in, order=FALLING, signing=signing,
        )

    def test_is_ring_in_of_any_value(self):
        wrong = ANYTHING + [
            [1, 2], [1, 2, 0, 1], [1, 2, 0, 1, 2, 0], [1, 0, 2], (0, 2, 1), [2, 1, 0], [True, 2, 0], [1, 2, False], [1, 2, "0"], [1, 2, None],
            [1, 2, [0]], [(1, 2, 0)], [1, 2, 3], [1, 2, -3], [-2, 2, 0], [1, 1, 2, 0], "120", b"\x01\x02\x00", {1: 1, 2: 2, 0: 0}, [1, 2, 10 ** 29],
            [(1, 2), (2, 0), (0, 1)], [1, 2, 0, 3],
        ]
        self.asks([[1, 2, 0], (1, 2, 0), [2, 0, 1], (0, 1, 2)], wrong, is_ring_in, order=[3, 2, 1], signing=[0, 1, 0])
        self.asks([], wrong + [[1, 2, 0], [0, 1, 2]], is_ring_in, order=[3, 2, 1], signing=[0, 0, 0])
        self.asks([], wrong + [[0], [0, 0, 0]], is_ring_in, order=[1], signing=[])


class Wrong(Case):
    def test_no_orders(self):
        for function in (web, colour_row):
            self.wrong(function, {"order": [3, 1, 2]}, [NO_ORDER])

    def test_colourings(self):
        no_many = [value for value in ANYTHING if not (value.__class__ is int and value >= 0)] + [[3], (3,), "3", {3: 3}, -3]
        self.wrong(colourings, {"order": [3, 1, 2], "many": 3}, [NO_ORDER, ("many", InvalidMany, no_many)])

    def test_signings(self):
        rules = [NO_ORDER, ("signing", InvalidSigning, NO_SIGNINGS)]
        self.wrong(ring_in, {"order": [3, 1, 2], "signing": [0, 1]}, rules)
        self.wrong(is_ring_in, {"order": [3, 1, 2], "signing": [0, 1], "value": [0, 1, 2]}, rules)
        for order in (NINE, [1]):
            for signing in ([0], (1,), None, [[]]):
                self.fails(InvalidSigning, {"value": signing}, ring_in, order, signing)
                self.fails(InvalidSigning, {"value": signing}, is_ring_in, order, signing, [0, 1, 2])
        for signing in ([0] * 35, [0] * 37, [0] * 35 + [2], [0] * 35 + [True]):
            self.fails(InvalidSigning, {"value": signing}, ring_in, FALLING, signing)
