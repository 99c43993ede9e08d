"""[71] to [73]: the base, step rows, ties that are turned, ties that can be turned alone."""

import random
import time

from lowerboards.errors import InvalidOrder, InvalidSigning, InvalidTie, NotRingless, TooMany
from lowerboards.four import is_even, is_free
from lowerboards.levels import level_row
from lowerboards.regions import base, is_same_row, step_row, turnable, turned_signing
from lowerboards.signings import all_signings, how_many_signings
from tests.helper import (
    FOUR, NO_ORDERS, NO_SIGNINGS, NO_TIES, Case, drawn_order, drawn_ringless, is_ringless_by_taking_away, orders_of, orders_up_to,
    pairs_wrong, signed, signings_of,
)

NINE = tuple(range(1, 10))
FALLING = tuple(range(9, 0, -1))
MIXED = (5, 9, 3, 1, 8, 2, 7, 6, 4)
LARGE = [NINE, FALLING, MIXED, (4, 5, 6, 7, 8, 9, 1, 2, 3), (2, 1, 4, 3, 6, 5, 8, 7, 9), (9, 2, 3, 4, 5, 6, 7, 8, 1)]
SIX = [(6, 5, 4, 3, 2, 1), (1, 2, 3, 4, 5, 6), (4, 5, 6, 1, 2, 3), (6, 2, 3, 4, 5, 1), *orders_of(6)[::97]]
NO_ORDER = ("order", InvalidOrder, NO_ORDERS)
NO_SIGNING = ("signing", InvalidSigning, NO_SIGNINGS)
# A signing with a ring: of three places, of four.
RINGS = [((3, 2, 1), [0, 1, 0]), ((3, 4, 1, 2), [0, 1, 1, 0]), ((4, 3, 2, 1), [0, 0, 1, 0, 0, 0])]


def ringless(order):
    """All ringless signings, by going through all rows of 0 and 1."""
    return [signing for signing in signings_of(order) if is_ringless_by_taking_away(order, signing)]


def row_by_counting(order):
    """The step row, by going through all signings."""
    many = [sum(signing) for signing in ringless(order)]
    return [many.count(at) for at in range(len(pairs_wrong(order)) + 1)]


def changed(signing, tie):
    """The signing with one tie turned."""
    return [1 - sign if at == tie else sign for at, sign in enumerate(signing)]


def turned_alone(order, signing):
    """The ties that can be turned alone, by the words of the document."""
    return [tie for tie in range(len(signing)) if is_ringless_by_taking_away(order, changed(signing, tie))]


def another_way_leads(led, start, end):
    """Whether a way along the ties but the one from start to end leads from there to there."""
    others = [pair for pair in led if pair != (start, end)]
    found = [start]
    for place in found:
        found += [last for first, last in others if first == place and last not in found]
    return end in found


class Examples(Case):
    def test_examples(self):
        self.same(
            [step_row([3, 2, 1]), step_row([3, 4, 1, 2]), is_same_row([3, 4, 1, 2]), turnable([3, 2, 1], [0, 0, 0])],
            [[1, 2, 2, 1], [1, 4, 4, 4, 1], False, [0, 2]],
        )


class Base(Case):
    def test_base(self):
        for order in orders_up_to(5) + FOUR + LARGE:
            self.tells([0] * len(pairs_wrong(order)), base, order=order)
            self.assertTrue(is_ringless_by_taking_away(order, base(order)))
        self.tells([], base, order=[1])
        self.tells([], base, order=NINE)
        self.tells([0] * 36, base, order=FALLING)


class Steps(Case):
    def test_step_row(self):
        for order in orders_up_to(5) + [FOUR[3]]:
            self.tells(row_by_counting(order), step_row, order=order)
        self.tells([1], step_row, order=[1])
        self.tells([1, 1], step_row, order=[2, 1])
        self.tells([1], step_row, order=(1, 2, 3, 4, 5, 6))

    def test_alike_from_both_ends(self):
        for order in orders_up_to(5) + SIX + FOUR:
            row = step_row(order)
            self.assertEqual(row, row[::-1])
            self.assertEqual((len(row), sum(row)), (len(pairs_wrong(order)) + 1, how_many_signings(order)))
        for order in orders_up_to(4):
            for signing in ringless(order):
                self.assertTrue(is_ringless_by_taking_away(order, [1 - sign for sign in signing]))

    def test_the_level_row_exactly_if_even(self):
        for order in orders_up_to(5) + SIX + FOUR:
            self.tells(is_even(order), is_same_row, order=order)
            self.assertIs(step_row(order) == level_row(order), is_even(order))
            self.assertIs(sum(step_row(order)) == sum(level_row(order)), is_free(order))
        self.same([level_row((3, 4, 1, 2)), step_row((3, 4, 1, 2))], [[1, 3, 5, 4, 1], [1, 4, 4, 4, 1]])
        self.same([sum(level_row((4, 2, 3, 1))), sum(step_row((4, 2, 3, 1)))], [20, 18])

    def test_six_things_in_a_second(self):
        for order in SIX:
            for function in (step_row, is_same_row):
                began = time.perf_counter()
                function(order)
                self.assertLess(time.perf_counter() - began, 1)


class Turned(Case):
    def test_turned_signing(self):
        for order in orders_up_to(4):
            for signing in signings_of(order):
                for tie in range(len(signing)):
                    self.tells(changed(signing, tie), turned_signing, order=order, signing=signing, tie=tie)
        for order, signing in RINGS:
            for tie in range(len(signing)):
                self.tells(changed(signing, tie), turned_signing, order=order, signing=signing, tie=tie)
        for tie in range(36):
            self.tells(changed([0, 1] * 18, tie), turned_signing, order=FALLING, signing=[0, 1] * 18, tie=tie)

    def test_no_tie(self):
        for tie in (0, -1, 1, None, "0", False):
            self.fails(InvalidTie, {"value": tie}, turned_signing, NINE, [], tie)
            self.fails(InvalidTie, {"value": tie}, turned_signing, order=[1], signing=(), tie=tie)
        for tie in (36, -1, 37, True):
            self.fails(InvalidTie, {"value": tie}, turned_signing, FALLING, [0] * 36, tie)


class Turnable(Case):
    def right(self, order, signing):
        """What turnable tells is what both ways of telling it say."""
        found = turned_alone(order, signing)
        self.tells(found, turnable, order=order, signing=signing)
        led = signed(order, signing)
        self.assertEqual(found, [tie for tie, (start, end) in enumerate(led) if not another_way_leads(led, start, end)])

    def test_turnable(self):
        for order in orders_up_to(4) + FOUR[1:3] + [(4, 5, 3, 1, 2), (5, 4, 3, 2, 1)]:
            for signing in all_signings(order)[::1 if len(order) < 5 else 7]:
                self.right(order, signing)
        self.tells([], turnable, order=[1], signing=[])
        self.tells([], turnable, order=NINE, signing=[])
        self.tells([0], turnable, order=[2, 1], signing=[1])

    def test_nine_things(self):
        dice = random.Random(71)
        for order in LARGE + [drawn_order(dice, size) for size in (6, 7, 8, 9, 9)]:
            many = len(pairs_wrong(order))
            for signing in [[0] * many, [1] * many, *[drawn_ringless(dice, order) for _ in range(3)]]:
                self.right(order, signing)
        # The things at neighbouring places, told by eight of the ties.
        self.tells([0, 8, 15, 21, 26, 30, 33, 35], turnable, order=FALLING, signing=[0] * 36)

    def test_not_ringless(self):
        for order, signing in RINGS:
            for kind in (list, tuple):
                self.fails(NotRingless, {}, turnable, kind(order), kind(signing))
                self.fails(NotRingless, {}, turnable, order=kind(order), signing=kind(signing))
        for order in orders_of(4):
            for signing in signings_of(order):
                if not is_ringless_by_taking_away(order, signing):
                    self.fails(NotRingless, {}, turnable, order, signing)
        self.fails(NotRingless, {}, turnable, FALLING, [0] * 7 + [1] + [0] * 28)

    def test_nine_things_in_a_second(self):
        dice = random.Random(72)
        for signing in [[0] * 36, [1] * 36, *[drawn_ringless(dice, FALLING) for _ in range(8)]]:
            began = time.perf_counter()
            turnable(FALLING, signing)
            self.assertLess(time.perf_counter() - began, 1)


class Wrong(Case):
    def test_no_orders(self):
        for function in (base, step_row, is_same_row):
            self.wrong(function, {"order": [3, 1, 2]}, [NO_ORDER])

    def test_too_many_things(self):
        for order in LARGE + [(1, 2, 3, 4, 5, 6, 7), [7, 6, 5, 4, 3, 2, 1]]:
            for function in (step_row, is_same_row):
                self.fails(TooMany, {"what": "things", "limit": 6}, function, order)
                self.fails(TooMany, {"what": "things", "limit": 6}, function, order=order)

    def test_signings_and_ties(self):
        good = {"order": [3, 1, 2], "signing": [0, 1], "tie": 1}
        self.wrong(turned_signing, good, [NO_ORDER, NO_SIGNING, ("tie", InvalidTie, NO_TIES)])
        self.wrong(turnable, {"order": [3, 1, 2], "signing": [0, 1]}, [NO_ORDER, NO_SIGNING])
