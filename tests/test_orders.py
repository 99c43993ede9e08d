"""[5] and [11] to [13]: wrong pairs, codes, orders undone, turned, behind and beside one another, blocks."""

import itertools

from lowerboards.errors import InvalidCode, InvalidOrder, InvalidPlace, TooMany, UnlikeSizes
from lowerboards.orders import (
    beside, blocks, code, exchanged, falls, level, one_behind, order_of, turned, undone, wrong_pairs,
)
from tests.helper import ANYTHING, NO_ORDERS, NO_PLACES, Case, orders_of, orders_up_to, pairs_wrong, with_exchange

NINE = tuple(range(1, 10))
FALLING = tuple(range(9, 0, -1))
MIXED = (5, 9, 3, 1, 8, 2, 7, 6, 4)
SOME = orders_up_to(4) + orders_of(5)[::7] + [NINE, FALLING, MIXED]
NO_CODES = ANYTHING + [
    [1], (2,), [2, 0], [1, 1], [0, 0, 1], [3, 0, 0], [2, 2, 0], [1, False], [True, 0], [False], [0, None], [0, [0]], [-1, 0],
    [0, "0"], "0", {0: 0}, {0}, [0] * 10, [9] + [0] * 8, list(range(9, -1, -1)), [10 ** 29, 0],
]


class Examples(Case):
    def test_examples(self):
        self.same(
            [code([3, 1, 2]), wrong_pairs((3, 1, 2)), undone([3, 1, 2]), turned([3, 1, 2, 4])],
            [[2, 0, 0], [(0, 1), (0, 2)], (2, 3, 1), (1, 3, 4, 2)],
        )
        self.same(
            [one_behind([3, 1, 2], [2, 1, 3]), exchanged([3, 1, 2], 2, 0), blocks([2, 1, 3, 5, 4])],
            [(1, 3, 2), (2, 1, 3), [(2, 1), (1,), (2, 1)]],
        )


class Told(Case):
    def test_wrong_pairs_and_level(self):
        for order in SOME:
            self.tells(sorted(pairs_wrong(order)), wrong_pairs, order=order)
            self.tells(len(pairs_wrong(order)), level, order=order)
        self.tells([], wrong_pairs, order=[1])
        self.tells(0, level, order=NINE)
        self.tells(36, level, order=FALLING)

    def test_code(self):
        for order in SOME:
            size = len(order)
            want = [sum(order[j] < order[i] for j in range(i + 1, size)) for i in range(size)]
            self.tells(want, code, order=order)
            self.assertEqual(sum(code(order)), level(order))
        self.tells([8, 7, 6, 5, 4, 3, 2, 1, 0], code, order=FALLING)

    def test_order_of_is_the_one_order_of_a_code(self):
        for size in range(1, 6):
            codes = list(itertools.product(*[range(size - place) for place in range(size)]))
            found = [order_of(list(one)) for one in codes]
            self.assertEqual(sorted(found), orders_of(size))
            self.same([code(order) for order in found], [list(one) for one in codes])
        for order in SOME:
            self.tells(tuple(order), order_of, code=code(order))

    def test_undone(self):
        for order in SOME:
            want = tuple(place for _, place in sorted((thing, at + 1) for at, thing in enumerate(order)))
            self.tells(want, undone, order=order)
            self.assertEqual(undone(undone(order)), tuple(order))
            self.assertEqual(level(undone(order)), level(order))
            sorted_order = tuple(sorted(order))
            self.assertEqual(one_behind(order, undone(order)), sorted_order)
            self.assertEqual(one_behind(undone(order), order), sorted_order)

    def test_turned(self):
        for order in SOME:
            size = len(order)
            self.tells(tuple(size + 1 - order[size - 1 - i] for i in range(size)), turned, order=order)
            self.assertEqual(turned(turned(order)), tuple(order))
            self.assertEqual(level(turned(order)), level(order))

    def test_one_behind(self):
        for size in range(1, 5):
            for order in orders_of(size):
                for other in orders_of(size)[::2]:
                    want = tuple(order[other[place] - 1] for place in range(size))
                    self.tells(want, one_behind, order=order, other=other)
        self.tells((4, 6, 7, 2, 8, 1, 3, 9, 5), one_behind, order=MIXED, other=FALLING)

    def test_exchanged(self):
        for order in orders_up_to(4) + [MIXED]:
            for first, second in itertools.permutations(range(len(order)), 2):
                want = with_exchange(order, first, second)
                self.tells(want, exchanged, order=order, first=first, second=second)

    def test_falls(self):
        for order in SOME:
            want = [place for place, (one, following) in enumerate(zip(order, order[1:])) if one > following]
            self.tells(want, falls, order=order)
        self.tells([], falls, order=[1])
        self.tells([0, 1, 2, 3, 4, 5, 6, 7], falls, order=FALLING)

    def test_blocks(self):
        for order in SOME + [(2, 1, 3, 5, 4), (1, 3, 2, 4, 7, 5, 6, 9, 8)]:
            size = len(order)
            cuts = [m for m in range(1, size) if all(a < b for a in order[:m] for b in order[m:])]
            ends = zip([0] + cuts, cuts + [size])
            self.tells([tuple(thing - low for thing in order[low:high]) for low, high in ends], blocks, order=order)
        self.tells([(1,)] * 9, blocks, order=NINE)
        self.tells([FALLING], blocks, order=FALLING)
        self.tells([(1,)], blocks, order=[1])

    def test_blocks_beside_one_another_are_the_order(self):
        for order in SOME:
            whole = ()
            for block in blocks(order):
                self.assertEqual(blocks(block), [block])
                whole = beside(whole, block) if whole else block
            self.assertEqual(whole, tuple(order))

    def test_beside(self):
        self.tells((2, 1, 5, 3, 4), beside, order=[2, 1], other=[3, 1, 2])
        self.tells((1, 2), beside, order=[1], other=[1])
        self.tells(FALLING[1:] + (9,), beside, order=FALLING[1:], other=[1])
        self.tells((1,) + FALLING[:8], beside, order=[1], other=FALLING[1:])


class Wrong(Case):
    def test_no_orders(self):
        for function in (wrong_pairs, level, code, undone, turned, falls, blocks):
            self.wrong(function, {"order": [3, 1, 2]}, [("order", InvalidOrder, NO_ORDERS)])

    def test_no_codes(self):
        self.wrong(order_of, {"code": [0]}, [("code", InvalidCode, NO_CODES)])

    def test_one_behind(self):
        rules = [("order", InvalidOrder, NO_ORDERS), ("other", InvalidOrder, NO_ORDERS)]
        self.wrong(one_behind, {"order": [3, 1, 2], "other": (1, 2, 3)}, rules)
        self.wrong(one_behind, {"order": [3, 1, 2], "other": (1, 2)}, rules)
        self.fails(UnlikeSizes, {}, one_behind, [3, 1, 2], [1, 2])
        self.fails(UnlikeSizes, {}, one_behind, order=(1,), other=NINE)

    def test_exchanged(self):
        rules = [("order", InvalidOrder, NO_ORDERS), ("first", InvalidPlace, NO_PLACES)]
        good = {"order": [3, 1, 2], "first": 0, "second": 2}
        self.wrong(exchanged, good, rules + [("second", InvalidPlace, NO_PLACES + [0])])
        self.wrong(exchanged, {**good, "first": 2, "second": 0}, rules + [("second", InvalidPlace, NO_PLACES + [2])])
        self.wrong(exchanged, {"order": [1], "first": 0, "second": 0}, [("second", InvalidPlace, [0])])

    def test_beside(self):
        rules = [("order", InvalidOrder, NO_ORDERS), ("other", InvalidOrder, NO_ORDERS)]
        self.wrong(beside, {"order": [2, 1], "other": (1, 2, 3)}, rules)
        self.wrong(beside, {"order": NINE, "other": NINE}, rules)
        for order, other in (([1], NINE), (FALLING, [1]), ([2, 1, 3, 4, 5], (1, 2, 3, 4, 5)), (NINE, NINE)):
            self.fails(TooMany, {"what": "things", "limit": 9}, beside, order, other)
