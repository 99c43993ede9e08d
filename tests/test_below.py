"""[5] and [21] to [23]: below, chains, right below and right above, bounds."""

import random

from lowerboards.below import chain, is_below, is_chain, right_above, right_below
from lowerboards.errors import InvalidOrder, UnlikeSizes
from lowerboards.orders import level, turned, undone
from tests.helper import (
    ANYTHING, NO_ORDERS, Case, come_of, orders_of, orders_up_to, pairs_wrong, with_exchange,
)

NINE = tuple(range(1, 10))
FALLING = tuple(range(9, 0, -1))
MIXED = (5, 9, 3, 1, 8, 2, 7, 6, 4)
NAMED = [(3, 5, 1, 4, 2), (4, 2, 5, 1, 3), (4, 5, 3, 1, 2), (3, 5, 1, 6, 2, 4), (5, 2, 3, 4, 1)]
UPPERS = orders_up_to(4) + NAMED
BOTH = [("order", InvalidOrder, NO_ORDERS), ("other", InvalidOrder, NO_ORDERS)]


def is_single_step(order, pair):
    """Whether the exchange takes just one wrong pair away."""
    return len(pairs_wrong(order)) - len(pairs_wrong(with_exchange(order, *pair))) == 1


def chains(lower, upper):
    """All chains from the upper order down to the lower one."""
    if lower == upper:
        return [[]]
    found = []
    for pair in pairs_wrong(upper):
        if is_single_step(upper, pair):
            found += [[pair] + rest for rest in chains(lower, with_exchange(upper, *pair))]
    return found


def lowered(order, times, dice):
    """An order that comes of the order by so many exchanges of wrong pairs, whichever."""
    for _ in range(times):
        wrong = pairs_wrong(order)
        if wrong:
            order = with_exchange(order, *dice.choice(wrong))
    return order


class Examples(Case):
    def test_examples(self):
        self.same(
            [
                is_below([1, 3, 2], (3, 1, 2)), is_below([3, 4, 1, 2], [4, 2, 3, 1]), chain([1, 2], [1, 2]),
                is_chain([1, 2, 3], [3, 1, 2], [(0, 1), (1, 2)]), chain([2, 1], [1, 2]),
            ],
            [True, False, [], True, None],
        )
        self.same(
            [right_below([3, 2, 1]), right_above([1, 3, 2])], [[(2, 3, 1), (3, 1, 2)], [(2, 3, 1), (3, 1, 2)]]
        )


class Below(Case):
    def test_below_is_what_comes_by_exchanges_of_wrong_pairs(self):
        for other in UPPERS:
            lower = come_of(other)
            for order in orders_of(len(other)):
                self.assertIs(is_below(order, other), order in lower)
                self.assertIs(is_below(list(order), other=list(other)), order in lower)
        for order, other in (((1, 3, 2), (3, 1, 2)), ((3, 4, 1, 2), (4, 2, 3, 1)), (FALLING, FALLING), ((1,), (1,))):
            self.tells(order in come_of(other) if len(other) < 9 else True, is_below, order=order, other=other)

    def test_bounds(self):
        for size in range(1, 5):
            orders = orders_of(size)
            below = {(a, b): is_below(a, b) for a in orders for b in orders}
            for a in orders:
                self.assertTrue(below[a, a] and below[orders[0], a] and below[a, orders[-1]])
                for b in orders:
                    self.assertFalse(a != b and below[a, b] and below[b, a])
                    self.assertFalse(below[a, b] and [c for c in orders if below[b, c] and not below[a, c]])
        for order in (NINE, FALLING, MIXED):
            self.assertTrue(is_below(NINE, order) and is_below(order, FALLING) and is_below(order, order))
        self.assertFalse(is_below(MIXED, NINE) or is_below(FALLING, MIXED))

    def test_undone_and_turned_go_along(self):
        pairs = [(a, b) for b in UPPERS for a in orders_of(len(b))]
        dice = random.Random(7)
        pairs += [(tuple(dice.sample(NINE, 9)), tuple(dice.sample(NINE, 9))) for _ in range(100)]
        for order, other in pairs:
            want = is_below(order, other)
            self.assertIs(is_below(undone(order), undone(other)), want)
            self.assertIs(is_below(turned(order), turned(other)), want)


class Chains(Case):
    def falls_to(self, order, other):
        """The chain is right, step by step, and has as many exchanges as the levels are apart."""
        given = (list(order), tuple(other))
        found = chain(*given)
        self.assertIs(found.__class__, list)
        things = tuple(other)
        for pair in found:
            self.assertIs(pair.__class__, tuple)
            self.assertIn(pair, pairs_wrong(things))
            self.assertTrue(is_single_step(things, pair))
            things = with_exchange(things, *pair)
        self.assertEqual(things, tuple(order))
        self.assertEqual(len(found), level(other) - level(order))
        self.assertIs(is_chain(order, other, found), True)
        self.assertIs(is_chain(list(order), list(other), tuple(found)), True)
        self.same(chain(order=tuple(order), other=list(other)), found)
        self.assertIsNot(chain(*given), found)
        self.same(given, (list(order), tuple(other)))

    def test_chain(self):
        for other in UPPERS:
            lower = come_of(other)
            for order in orders_of(len(other)):
                if order in lower:
                    self.falls_to(order, other)
                else:
                    self.tells(None, chain, order=order, other=other)

    def test_chain_of_nine_things(self):
        dice = random.Random(3)
        self.falls_to(NINE, FALLING)
        self.falls_to(FALLING, FALLING)
        self.falls_to((1,), (1,))
        for times in range(12):
            upper = tuple(dice.sample(NINE, 9))
            self.falls_to(lowered(upper, times, dice), upper)
        self.tells(None, chain, order=FALLING, other=MIXED)

    def test_is_chain_takes_all_chains_and_no_others(self):
        for other in orders_up_to(4):
            for order in come_of(other):
                right = chains(order, other)[:60]
                wrong = []
                for one in right[:4]:
                    wrong += [one[:-1], one[1:], one + [(0, 1)], one[:1] + one] if one else [[(0, 1)], [(0, 0)]]
                    wrong += [one[:at] + [(j, i)] + one[at + 1:] for at, (i, j) in enumerate(one)]
                    wrong += [one[:at] + [[i, j]] + one[at + 1:] for at, (i, j) in enumerate(one)]
                self.asks(right, [one for one in wrong if one not in right], is_chain, order=order, other=other)

    def test_is_chain_of_any_value(self):
        wrong = ANYTHING + [
            [(0, 1)], [(0, 1), (1, 2), (1, 2)], [(1, 2), (0, 1)], [(1, 0), (1, 2)], [(0, 1), (2, 1)], [(0, True), (1, 2)],
            [(False, 1), (1, 2)], [[0, 1], (1, 2)], [(0, 1), [1, 2]], [(0, 1), (1, 2), None], [(0, 1, 1), (1, 2)], [(0,), (1, 2)],
            [(0, 1), (1, 3)], [(0, 1), (-2, 2)], [(-3, 1), (1, 2)], [("0", 1), (1, 2)], [(0, None), (1, 2)], ((0, 1), 1),
            {(0, 1): 1, (1, 2): 1}, "0112", [(0, 2)], [(0, 1), (1, 10 ** 29)], [((0, 1), (1, 2))], (0, 1), [(0, 1), (1, 1)],
        ]
        right = [[(0, 1), (1, 2)], ((0, 1), (1, 2))]
        self.asks(right, wrong, is_chain, order=[1, 2, 3], other=(3, 1, 2))
        nothing = [value for value in ANYTHING if value not in ([], ())]
        self.asks([[], ()], nothing + [[(0, 1)], [(0, 0)]], is_chain, order=(3, 1, 2), other=[3, 1, 2])
        # The exchange of the outer two takes three wrong pairs away.
        self.asks([], [[(0, 2)], []], is_chain, order=[1, 2, 3], other=[3, 2, 1])
        # Nor do exchanges that make a wrong pair take one away, wherever they are counted from.
        self.asks([], [[(0, 1)], [(1, 0)], [(-1, 0)], [(0, -1)], [(-2, 1)]], is_chain, order=(2, 1), other=(1, 2))
        up_and_down = [[(1, 0), (0, 1), (0, 1)], [(2, 1), (1, 2), (0, 1)], [(-1, 0), (0, 2), (0, 1)]]
        self.asks([[(0, 1)]], up_and_down, is_chain, order=[1, 2, 3], other=[2, 1, 3])
        # Nothing is a chain where the order is not below.
        self.asks([], [[], [(0, 1)], [(0, 2)], None], is_chain, order=[3, 1, 2], other=[1, 2, 3])


class Right(Case):
    def test_right_below_and_right_above(self):
        for size in range(1, 6):
            below, above = {order: [] for order in orders_of(size)}, {order: [] for order in orders_of(size)}
            for upper in below:
                for pair in pairs_wrong(upper):
                    if is_single_step(upper, pair):
                        below[upper].append(with_exchange(upper, *pair))
                        above[with_exchange(upper, *pair)].append(upper)
            for order in orders_of(size):
                self.tells(sorted(below[order]), right_below, order=order)
                self.tells(sorted(above[order]), right_above, order=order)

    def test_the_ends(self):
        self.tells([], right_below, order=NINE)
        self.tells([], right_above, order=FALLING)
        self.tells([], right_below, order=[1])
        self.tells([], right_above, order=[1])
        self.tells(sorted(with_exchange(NINE, at, at + 1) for at in range(8)), right_above, order=NINE)
        self.tells(sorted(with_exchange(FALLING, at, at + 1) for at in range(8)), right_below, order=FALLING)


class Wrong(Case):
    def test_no_orders(self):
        for function in (right_below, right_above):
            self.wrong(function, {"order": [3, 1, 2]}, BOTH[:1])
        for function in (is_below, chain):
            self.wrong(function, {"order": [1, 3, 2], "other": (3, 1, 2)}, BOTH)
            self.wrong(function, {"order": [1, 2], "other": (3, 1, 2)}, BOTH)
        self.wrong(is_chain, {"order": [1, 3, 2], "other": (3, 1, 2), "value": [(0, 1)]}, BOTH)
        self.wrong(is_chain, {"order": [1, 2], "other": (3, 1, 2), "value": None}, BOTH)

    def test_unlike_sizes(self):
        for order, other in (([1, 2], (3, 1, 2)), (NINE, [1]), ((1,), [2, 1])):
            self.fails(UnlikeSizes, {}, is_below, order, other)
            self.fails(UnlikeSizes, {}, chain, order=order, other=other)
            self.fails(UnlikeSizes, {}, is_chain, order, other, [])
            self.fails(UnlikeSizes, {}, is_chain, order=order, other=other, value=None)
