"""[46], [51] and [53]: ringless signings, how many, and last places."""

import functools
import itertools
import time

from lowerboards.errors import InvalidOrder, InvalidSigning, TooMany
from lowerboards.four import is_free
from lowerboards.signings import all_signings, how_many_signings, is_ringless, last_places
from lowerboards.webs import web
from tests.helper import (
    FOUR, NO_ORDERS, NO_SIGNINGS, Case, come_of, is_ringless_by_taking_away, orders_of, orders_up_to, pairs_wrong, signed, signings_of,
    subsets,
)

NINE = tuple(range(1, 10))
FALLING = tuple(range(9, 0, -1))
MIXED = (5, 9, 3, 1, 8, 2, 7, 6, 4)
NAMED = FOUR + [(3, 4, 1, 2), (4, 5, 3, 1, 2)]
LARGE = [NINE, FALLING, MIXED, (4, 5, 6, 7, 8, 9, 1, 2, 3), (2, 1, 4, 3, 6, 5, 8, 7, 9), (9, 2, 3, 4, 5, 6, 7, 8, 1)]
NO_ORDER = ("order", InvalidOrder, NO_ORDERS)


def number_by_lots(order):
    """How many ringless signings there are: the sum over all lots of untied places, without listing them."""
    ties = set(pairs_wrong(order))

    @functools.lru_cache(None)
    def number(places):
        total = 0 if places else 1
        for many in range(1, len(places) + 1):
            for lot in itertools.combinations(places, many):
                if not ties & set(itertools.combinations(lot, 2)):
                    total += (1 if many % 2 else -1) * number(tuple(place for place in places if place not in lot))
        return total

    return number(tuple(range(len(order))))


def ringless(order):
    """All ringless signings, by going through all rows of 0 and 1."""
    return [signing for signing in signings_of(order) if is_ringless_by_taking_away(order, signing)]


def places_led_to(order, signing):
    """The places to which each of their ties leads."""
    led = signed(order, signing)
    places = range(len(order))
    return [place for place in places if all(end == place for start, end in led if place in (start, end))]


class Examples(Case):
    def test_examples(self):
        self.same(
            [all_signings([3, 1, 2]), how_many_signings([4, 2, 3, 1]), last_places([3, 1, 2], [0, 0])],
            [[[0, 0], [0, 1], [1, 0], [1, 1]], 18, [1, 2]],
        )


class Ringless(Case):
    def test_is_ringless(self):
        for order in orders_up_to(4) + NAMED[2:3]:
            for signing in signings_of(order):
                self.tells(is_ringless_by_taking_away(order, signing), is_ringless, order=order, signing=signing)

    def test_is_ringless_of_nine_things(self):
        for order in LARGE:
            many = len(pairs_wrong(order))
            self.tells(True, is_ringless, order=order, signing=[0] * many)
            self.tells(True, is_ringless, order=order, signing=[1] * many)
            for at in range(many):
                signing = [1 if at == other else 0 for other in range(many)]
                self.tells(is_ringless_by_taking_away(order, signing), is_ringless, order=order, signing=signing)

    def test_all_signings(self):
        for order in orders_up_to(4) + NAMED[1:3] + [(4, 5, 3, 1, 2), (2, 1, 4, 3, 6, 5), (3, 5, 1, 6, 2, 4)]:
            self.tells(ringless(order), all_signings, order=order)
        self.tells([[]], all_signings, order=[1, 2, 3, 4, 5, 6])
        self.tells([[]], all_signings, order=[1])
        self.tells([[0], [1]], all_signings, order=[2, 1])

    def test_all_signings_of_six_things(self):
        for order in [(6, 5, 4, 3, 2, 1), (4, 5, 6, 1, 2, 3), (6, 2, 3, 4, 5, 1), *orders_of(6)[::97]]:
            found = all_signings(order)
            self.assertEqual(len(found), number_by_lots(order))
            self.assertEqual(found, sorted(found))
            self.assertTrue(all(is_ringless_by_taking_away(order, signing) for signing in found))
            self.assertEqual(len({tuple(signing) for signing in found}), len(found))


class Number(Case):
    def test_how_many_signings(self):
        for order in orders_up_to(4) + NAMED[1:3]:
            self.tells(len(ringless(order)), how_many_signings, order=order)
        for order in orders_of(5) + NAMED + LARGE:
            self.tells(number_by_lots(order), how_many_signings, order=order)

    def test_ends(self):
        self.tells(1, how_many_signings, order=NINE)
        self.tells(1, how_many_signings, order=[1])
        self.tells(362880, how_many_signings, order=FALLING)
        self.tells(16, how_many_signings, order=LARGE[4])

    def test_never_more_than_orders_below_and_as_many_exactly_if_free(self):
        for order in orders_up_to(5) + [FOUR[3]] + orders_of(6)[::67]:
            signings, below = how_many_signings(order), len(come_of(order))
            self.assertLessEqual(signings, below)
            self.assertIs(signings == below, is_free(order))
        self.assertEqual([how_many_signings(way) for way in FOUR[:1]], [18])

    def test_nine_things_in_a_second(self):
        for order in LARGE:
            for function, given in ((how_many_signings, [order]), (is_ringless, [order, [0] * len(web(order))])):
                began = time.perf_counter()
                function(*given)
                self.assertLess(time.perf_counter() - began, 1)


class Last(Case):
    def test_last_places(self):
        for order in orders_up_to(4) + NAMED[1:2]:
            for signing in signings_of(order):
                self.tells(places_led_to(order, signing), last_places, order=order, signing=signing)

    def test_last_places_of_nine_things(self):
        self.tells(list(range(9)), last_places, order=NINE, signing=[])
        self.tells([8], last_places, order=FALLING, signing=[0] * 36)
        self.tells([0], last_places, order=FALLING, signing=[1] * 36)
        for order in LARGE:
            for step in range(1, 12):
                signing = [at * step % 7 % 2 for at in range(len(web(order)))]
                self.tells(places_led_to(order, signing), last_places, order=order, signing=signing)
        self.tells([], last_places, order=[3, 2, 1], signing=[0, 1, 0])

    def test_a_ringless_signing_has_last_places_that_are_not_tied(self):
        for order in orders_up_to(4) + NAMED[1:3]:
            for signing in ringless(order):
                found = last_places(order, signing)
                self.assertTrue(found)
                self.assertFalse(set(itertools.combinations(found, 2)) & set(web(order)))

    def test_ringless_exactly_if_each_lot_of_places_has_a_last_one(self):
        for order in orders_of(4)[::3] + NAMED[4:]:
            for signing in signings_of(order)[::5]:
                led = signed(order, signing)
                lots = subsets(len(order))[1:]
                lasting = all(any(not any(s == p and e in lot for s, e in led) for p in lot) for lot in lots)
                self.assertIs(is_ringless(order, signing), lasting)


class Wrong(Case):
    def test_signings(self):
        rules = [NO_ORDER, ("signing", InvalidSigning, NO_SIGNINGS)]
        for function in (is_ringless, last_places):
            self.wrong(function, {"order": [3, 1, 2], "signing": [0, 1]}, rules)
            for signing in ([0] * 35, [0] * 37, (0,) * 35 + (2,), [0] * 35 + [True], [False] + [0] * 35):
                self.fails(InvalidSigning, {"value": signing}, function, FALLING, signing)
            for signing in ([0], (1,), None, [[]]):
                self.fails(InvalidSigning, {"value": signing}, function, NINE, signing)

    def test_no_orders(self):
        for function in (how_many_signings, all_signings):
            self.wrong(function, {"order": [3, 1, 2]}, [NO_ORDER])

    def test_more_than_six_things(self):
        for size in (7, 8, 9):
            for order in (list(range(1, size + 1)), tuple(range(size, 0, -1))):
                self.fails(TooMany, {"what": "things", "limit": 6}, all_signings, order)
                self.fails(TooMany, {"what": "things", "limit": 6}, all_signings, order=order)
