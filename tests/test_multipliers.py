"""[63] to [65]: thing steps, place steps, multipliers and the row that they make."""

import itertools
import math
import random
import time

from lowerboards.errors import InvalidKind, InvalidOrder, InvalidRow, NoStep
from lowerboards.four import is_even
from lowerboards.levels import level_row
from lowerboards.multipliers import is_steps, multipliers, row_of, step_at, stepped, steps
from lowerboards.orders import level, undone
from tests.helper import ANYTHING, FOUR, NO_ORDERS, Case, numbered, orders_of, orders_up_to, with_things_put_in

NINE = tuple(range(1, 10))
FALLING = tuple(range(9, 0, -1))
MIXED = (5, 9, 3, 1, 8, 2, 7, 6, 4)
UNEVEN = [(3, 4, 1, 2), (4, 2, 3, 1)]
LARGE = [
    NINE, FALLING, MIXED, (2, 3, 4, 5, 6, 7, 8, 9, 1), (9, 1, 2, 3, 4, 5, 6, 7, 8), (2, 1, 4, 3, 6, 5, 8, 7, 9), (2, 4, 3, 1, 5, 9, 8, 7, 6),
    (1, 2, 3, 4, 5, 8, 9, 6, 7), (1, 2, 9, 4, 5, 6, 7, 3, 8),
]
NAMED = FOUR + [(4, 5, 3, 1, 2), (6, 5, 4, 3, 2, 1), (1, 2, 3, 4, 5, 6), (2, 3, 4, 6, 5, 1), (1, 5, 6, 4, 3, 2)]
ENOUGH = orders_up_to(5) + NAMED + LARGE + [longer for way in UNEVEN for longer in with_things_put_in(way)[::7]]
NO_ORDER = ("order", InvalidOrder, NO_ORDERS)
NO_KINDS = ANYTHING + ["things", "thin", "Thing", "place ", "thingplace", " ", ["thing"], ("place",), b"thing", {"thing": 1}, {"place"}]
NO_ROWS = [value for value in ANYTHING if value not in ([], ())] + [
    [9], [1, 9], (-1,), [8, 8, -1], [True], [1, False], (2, True), ["1"], [1, None], [1, [2]], [(1,)], "12", {1: 2}, {1, 2}, b"\x01",
    [0] * 9, (1,) * 9, [8] * 9, [1, 2, 3, 4, 5, 6, 7, 8, 0], [10], [1, 10 ** 29], [1, -10 ** 29],
]


def step_fits(order, kind):
    """The multiplier and the order that the step leads to, by the words of the document; None if it does not fit."""
    size = len(order)
    if size < 2:
        return None
    if kind == "thing":
        d = order.index(size) + 1
        falling = order[d - 1:]
        left, number = order[:d - 1] + order[d:], size - d
    else:
        falling = [thing for thing in order if thing > order[-1]]
        left, number = numbered(order[:-1]), size - order[-1]
    fits = all(a > b for a, b in itertools.pairwise(falling))
    return (number, tuple(left)) if fits else None


def all_steps(order):
    """All steps of an order, each with its multipliers."""
    if len(order) == 1:
        return [((), ())]
    told = []
    for kind in ("thing", "place"):
        found = step_fits(order, kind)
        if found:
            told += [((kind, *words), (found[0], *numbers)) for words, numbers in all_steps(found[1])]
    return told


def product_of(rows):
    """The product of rows, as sums of powers are multiplied."""
    told = [1]
    for row in rows:
        size = len(told) + len(row) - 1
        told = [sum(told[i] * row[k - i] for i in range(len(told)) if 0 <= k - i < len(row)) for k in range(size)]
    return told


class Examples(Case):
    def test_examples(self):
        self.same(
            [step_at((3, 2, 1)), step_at((2, 1, 4, 3)), stepped((2, 4, 1, 3), "place"), multipliers((2, 1, 4, 3)), row_of([1, 2])],
            [("thing", 2), ("thing", 1), (2, 3, 1), [0, 1, 1], [1, 2, 2, 1]],
        )
        self.same(
            [multipliers((3, 4, 1, 2)), is_steps((3, 1, 2), ["place", "thing"]), is_steps((3, 1, 2), ["thing", "thing"])],
            [None, True, False],
        )


class Step(Case):
    def test_step_at(self):
        for order in ENOUGH:
            found = [(kind, step_fits(order, kind)[0]) for kind in ("thing", "place") if step_fits(order, kind)]
            self.tells(found[0] if found else None, step_at, order=order)
        self.tells(None, step_at, order=[1])
        self.tells(("thing", 0), step_at, order=NINE)
        self.tells(("thing", 8), step_at, order=FALLING)
        self.tells(("place", 1), step_at, order=LARGE[8])
        self.tells(("place", 3), step_at, order=(9, 1, 2, 8, 3, 4, 7, 5, 6))
        self.tells(None, step_at, order=(3, 7, 1, 9, 2, 8, 4, 5, 6))

    def test_stepped(self):
        for order in ENOUGH:
            for kind in ("thing", "place"):
                found = step_fits(order, kind)
                if found:
                    self.tells(found[1], stepped, order=order, kind=kind)
                else:
                    self.fails(NoStep, {}, stepped, order, kind)
                    self.fails(NoStep, {}, stepped, order=list(order), kind=kind)
        self.fails(NoStep, {}, stepped, [1], "thing")
        self.fails(NoStep, {}, stepped, (1,), kind="place")

    def test_a_step_multiplies_the_level_row_in_each_order(self):
        for order in orders_up_to(5) + NAMED + orders_of(6)[::31]:
            row = level_row(order)
            for kind in ("thing", "place"):
                found = step_fits(order, kind)
                if found:
                    self.assertEqual(product_of([level_row(stepped(order, kind)), [1] * (found[0] + 1)]), row)

    def test_a_thing_step_is_a_place_step_of_the_order_undone(self):
        for order in orders_up_to(5) + NAMED + LARGE:
            for kind, other in (("thing", "place"), ("place", "thing")):
                found, back = step_fits(order, kind), step_fits(undone(order), other)
                self.assertEqual(found and (found[0], undone(found[1])), back)
                if found:
                    self.assertEqual(stepped(undone(order), other), undone(stepped(order, kind)))

    def test_one_of_both_fits_an_even_order_and_leaves_an_even_one(self):
        for order in orders_up_to(5):
            if is_even(order) and len(order) > 1:
                self.assertIsNotNone(step_at(order))
                for kind in ("thing", "place"):
                    found = step_fits(order, kind)
                    self.assertTrue(found is None or is_even(found[1]))


class Multipliers(Case):
    def test_multipliers(self):
        for order in ENOUGH:
            found = all_steps(order)
            want = sorted(found[0][1]) if found else None
            self.tells(want, multipliers, order=order)
            self.assertIs(want is None, not is_even(order))
            for _, numbers in found:
                self.assertEqual(sorted(numbers), want)
        self.tells([], multipliers, order=[1])
        self.tells([0] * 8, multipliers, order=NINE)
        self.tells([1, 2, 3, 4, 5, 6, 7, 8], multipliers, order=FALLING)
        self.tells([1] * 8, multipliers, order=LARGE[3])

    def test_sum_products_and_rows(self):
        for order in orders_up_to(5) + NAMED:
            told = multipliers(order)
            if told is not None:
                row = level_row(order)
                self.assertEqual(sum(told), level(order))
                self.assertEqual(math.prod(number + 1 for number in told), sum(row))
                self.assertEqual(row_of(told), row)
        for order in LARGE:
            told = multipliers(order)
            self.assertTrue(told is None or sum(told) == level(order))

    def test_steps(self):
        for order in ENOUGH:
            found = [words for words, _ in all_steps(order)]
            for given in (order, list(order)):
                told = steps(given)
                self.assertIs(told is None, not found)
                if found:
                    self.assertIs(told.__class__, list)
                    self.assertIn(tuple(told), found)
                    self.assertIs(is_steps(given, told), True)
                    self.assertIsNot(steps(given), told)
                self.same(steps(order=given), told)
        self.same(steps([1]), [])

    def test_is_steps(self):
        for order in orders_up_to(4) + NAMED[3:8] + [(3, 2, 1, 5, 4), (2, 5, 4, 3, 1)]:
            found = [words for words, _ in all_steps(order)]
            size = len(order)
            rows = [row for many in range(max(0, size - 2), size + 1) for row in itertools.product(("thing", "place"), repeat=many)]
            right = [row for row in rows if row in found]
            wrong = [row for row in rows if row not in found]
            self.asks(right + list(map(list, right)), wrong + list(map(list, wrong)), is_steps, order=order)

    def test_is_steps_of_nine_things(self):
        for order in LARGE:
            found = {words for words, _ in all_steps(order)}
            for row in itertools.product(("thing", "place"), repeat=8):
                self.assertIs(is_steps(order, row), row in found)

    def test_is_steps_of_any_value(self):
        wrong = NO_KINDS + [
            ["place"], ["thing"], ["place", "thing", "thing"], ["place", "thing", "place"], ["thing", "thing"], ["place", "other"],
            ["place", ["thing"]], [["place", "thing"]], ["place", True], ["place", None], ["place", 1], ["place", b"thing"], "placething",
            {"place": 1, "thing": 2}, {"place", "thing"}, ["Place", "thing"], ["place ", "thing"], [("place", 1), ("thing", 1)], [], (),
        ]
        self.asks([["place", "thing"], ("place", "thing"), ["place", "place"]], wrong, is_steps, order=[3, 1, 2])
        self.asks([[], ()], [["thing"], ["place"], None, "", {}, False, 0, [[]]], is_steps, order=[1])
        self.asks([], wrong + [["place", "thing", "place"]], is_steps, order=[3, 4, 1, 2])

    def test_within_a_second(self):
        for order in LARGE:
            for function in (multipliers, steps, step_at):
                began = time.perf_counter()
                function(order)
                self.assertLess(time.perf_counter() - began, 1)


class Rows(Case):
    def test_row_of(self):
        dice = random.Random(3)
        given = [[], [0], [1], [8], [0, 0], [2, 1], [1, 2, 3, 4, 5, 6, 7, 8], [8] * 8, [0] * 8, [1] * 8, [8, 0, 3]]
        for numbers in given + [dice.choices(range(9), k=dice.randrange(9)) for _ in range(30)]:
            self.tells(product_of([[1] * (number + 1) for number in numbers]), row_of, numbers=numbers)
        self.tells([1], row_of, numbers=())

    def test_not_these(self):
        self.wrong(row_of, {"numbers": [1, 2]}, [("numbers", InvalidRow, NO_ROWS)])


class Wrong(Case):
    def test_no_orders(self):
        for function in (step_at, multipliers, steps):
            self.wrong(function, {"order": [3, 1, 2]}, [NO_ORDER])
        for value in (None, ["place", "thing"]):
            self.wrong(is_steps, {"order": [3, 1, 2], "value": value}, [NO_ORDER])

    def test_stepped(self):
        rules = [NO_ORDER, ("kind", InvalidKind, NO_KINDS)]
        for order in ([3, 1, 2], (3, 4, 1, 2), [1], NINE):
            self.wrong(stepped, {"order": order, "kind": "thing"}, rules)
