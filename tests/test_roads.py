"""[74]: gaps between signings, and roads from one to another one."""

import itertools
import random
import time

from lowerboards.errors import InvalidOrder, InvalidSigning, NotRingless
from lowerboards.roads import gap, is_road, road
from lowerboards.signings import all_signings
from tests.helper import (
    ANYTHING, FOUR, NO_ORDERS, NO_SIGNINGS, Case, drawn_order, drawn_ringless, is_ringless_by_taking_away, orders_up_to,
    pairs_wrong, signings_of, with_changes,
)

NINE = tuple(range(1, 10))
FALLING = tuple(range(9, 0, -1))
MIXED = (5, 9, 3, 1, 8, 2, 7, 6, 4)
LARGE = [NINE, FALLING, MIXED, (4, 5, 6, 7, 8, 9, 1, 2, 3), (2, 1, 4, 3, 6, 5, 8, 7, 9)]
NO_ORDER = ("order", InvalidOrder, NO_ORDERS)
RULES = [NO_ORDER, ("signing", InvalidSigning, NO_SIGNINGS), ("target", InvalidSigning, NO_SIGNINGS)]
RINGS = [((3, 2, 1), [0, 1, 0]), ((3, 4, 1, 2), [0, 1, 1, 0]), (FALLING, [0] * 7 + [1] + [0] * 28)]


def unlike(signing, target):
    """The ties that are signed unlike."""
    return [tie for tie, (here, there) in enumerate(zip(signing, target)) if here != there]


def goes_along(order, signing, target, ties):
    """Whether the ties, turned one behind another, each alone, lead from the one to the other, none in vain."""
    now = list(signing)
    for tie in ties:
        now[tie] = 1 - now[tie]
        if not is_ringless_by_taking_away(order, now):
            return False
    return now == list(target) and len(ties) == len(unlike(signing, target))


def pairs_of_signings(order, step):
    """Pairs of ringless signings, the first one with each."""
    found = all_signings(order)
    return [(found[0], signing) for signing in found] + list(itertools.product(found, found))[::step]


class Examples(Case):
    def test_examples(self):
        self.same(
            [
                gap([3, 2, 1], [0, 0, 0], [1, 1, 0]), is_road([3, 2, 1], [0, 0, 0], [1, 1, 1], [0, 1, 2]),
                is_road([3, 2, 1], [0, 0, 0], [1, 1, 1], [1, 0, 2]),
            ],
            [2, True, False],
        )
        self.same(road([3, 2, 1], [0, 0, 0], [0, 0, 1]), [2])


class Gap(Case):
    def test_gap(self):
        for order in orders_up_to(3) + [(2, 1, 4, 3), (3, 4, 1, 2)]:
            for signing, target in itertools.product(signings_of(order), repeat=2):
                self.tells(len(unlike(signing, target)), gap, order=order, signing=signing, target=target)
        self.tells(0, gap, order=[1], signing=[], target=[])
        self.tells(0, gap, order=NINE, signing=[], target=[])
        self.tells(36, gap, order=FALLING, signing=[0] * 36, target=[1] * 36)
        self.tells(18, gap, order=FALLING, signing=[0, 1] * 18, target=[1] * 36)

    def test_with_rings_too(self):
        for order, signing in RINGS:
            self.tells(sum(signing), gap, order=order, signing=signing, target=[0] * len(signing))


class Road(Case):
    def right(self, order, signing, target):
        """What road tells is one, told new."""
        for kind in (list, tuple):
            given = {"order": kind(order), "signing": kind(signing), "target": kind(target)}
            before = repr(given)
            found = road(*given.values())
            self.assertIs(found.__class__, list)
            self.assertTrue(all(tie.__class__ is int for tie in found))
            self.assertTrue(goes_along(order, signing, target, found))
            self.assertEqual(sorted(found), unlike(signing, target))
            self.assertEqual(len(found), gap(*given.values()))
            self.assertIs(is_road(*given.values(), found), True)
            self.assertIs(is_road(**given, value=tuple(found)), True)
            self.same(road(**given), found)
            self.assertIsNot(road(**given), found)
            self.assertEqual(repr(given), before)

    def test_all_roads_of_few_things(self):
        for order in orders_up_to(4):
            for signing, target in pairs_of_signings(order, 1 if len(order) < 4 else 11):
                self.right(order, signing, target)

    def test_some_roads_of_more_things(self):
        for order in FOUR + [(4, 5, 3, 1, 2), (5, 4, 3, 2, 1)]:
            for signing, target in pairs_of_signings(order, 1733)[::5]:
                self.right(order, signing, target)

    def test_there_and_back_between_drawn_signings(self):
        dice = random.Random(74)
        for order in LARGE + [drawn_order(dice, size) for size in (5, 6, 7, 8, 9)]:
            for _ in range(3):
                signing, target = drawn_ringless(dice, order), drawn_ringless(dice, order)
                self.right(order, signing, target)
                self.right(order, target, signing)

    def test_to_itself_and_across(self):
        for order in orders_up_to(4) + LARGE:
            many = len(pairs_wrong(order))
            self.assertEqual(road(order, [1] * many, [1] * many), [])
            self.right(order, [0] * many, [1] * many)
            self.right(order, [1] * many, [0] * many)
        self.assertEqual(len(road(FALLING, [0] * 36, [1] * 36)), 36)


class IsRoad(Case):
    def test_all_rows_of_ties(self):
        for order in orders_up_to(3) + [(2, 1, 4, 3), (3, 4, 1, 2)]:
            many = len(pairs_wrong(order))
            rows = [row for size in range(many + 1) for row in itertools.product(range(many), repeat=size)]
            for signing, target in pairs_of_signings(order, 1 if many < 4 else 23):
                for row in rows:
                    want = goes_along(order, signing, target, row)
                    self.assertIs(is_road(order, signing, target, row), want)
                    self.assertIs(is_road(list(order), tuple(signing), target, list(row)), want)

    def test_roads_with_one_thing_otherwise(self):
        dice = random.Random(75)
        for order in (FALLING, MIXED, (5, 4, 3, 2, 1), FOUR[3]):
            many = len(pairs_wrong(order))
            signing, target = [0] * many, drawn_ringless(dice, order)
            found = road(order, signing, target)
            for ties in with_changes(found, [0, many - 1])[::3] + [found[::-1], found + found, found * 3]:
                self.assertIs(is_road(order, signing, target, ties), goes_along(order, signing, target, ties))

    def test_any_value(self):
        wrong = ANYTHING + [
            [0, 1], [0, 2, 1], [1, 0, 2], [0, 1, 2, 2], [0, 1, 2, 0, 0], [0, 1, 3], [-3, 1, 2], [0, True, 2], [False, 1, 2], (0, 1, True),
            ["0", 1, 2], [0, None, 2], [0, [1], 2], [[0, 1, 2]], [(0, 1, 2)], "012", b"\x00\x01\x02", {0: 0, 1: 1, 2: 2}, {0, 1, 2},
            [0, 1, 10 ** 29], [0, 1, -1], [0, 1, 2, 1, 1], [1, 2],
        ]
        right = [[0, 1, 2], (0, 1, 2), [2, 1, 0]]
        self.asks(right, wrong, is_road, order=[3, 2, 1], signing=[0, 0, 0], target=[1, 1, 1])
        empty = [value for value in wrong + right if value not in ([], ())]
        self.asks([[], ()], empty, is_road, order=[3, 2, 1], signing=[0, 0, 1], target=[0, 0, 1])
        self.asks([[], ()], empty, is_road, order=[1], signing=[], target=[])
        self.asks([[], ()], empty, is_road, order=NINE, signing=[], target=())


class Wrong(Case):
    def test_no_orders_and_no_signings(self):
        good = {"order": [3, 1, 2], "signing": [0, 1], "target": [1, 1]}
        self.wrong(gap, good, RULES)
        self.wrong(road, good, RULES)
        for value in (None, [0], [[]]):
            self.wrong(is_road, {**good, "value": value}, RULES)

    def test_not_ringless(self):
        for order, signing in RINGS:
            other = [0] * len(signing)
            for here, there in ((signing, other), (other, signing), (signing, signing)):
                self.fails(NotRingless, {}, road, order, here, there)
                self.fails(NotRingless, {}, road, order=list(order), signing=tuple(here), target=tuple(there))
                for value in (None, [], [0]):
                    self.fails(NotRingless, {}, is_road, order, here, there, value)
                    self.fails(NotRingless, {}, is_road, order=order, signing=here, target=there, value=value)

    def test_no_signing_ahead_of_not_ringless(self):
        order, signing = RINGS[0]
        for target in (None, [0, 0], [0, 0, 2], [0, 0, True]):
            self.fails(InvalidSigning, {"value": target}, road, order, signing, target)
            self.fails(InvalidSigning, {"value": target}, road, order, target, signing)
            self.fails(InvalidSigning, {"value": target}, is_road, order, signing, target, [])

    def test_nine_things_in_a_second(self):
        found = road(FALLING, [0] * 36, [1] * 36)
        for function, given in ((road, []), (gap, []), (is_road, [found]), (is_road, [found[::-1]])):
            began = time.perf_counter()
            function(FALLING, [0] * 36, [1] * 36, *given)
            self.assertLess(time.perf_counter() - began, 1)
