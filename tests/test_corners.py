"""[24] to [27]: corners, those that matter, least orders, singles and the bearing."""

import itertools

from lowerboards.corners import bearing, corner_table, counted, is_single, least_with, mattering, over
from lowerboards.errors import InvalidCorner, InvalidMany, InvalidOrder, UnlikeSizes
from tests.helper import ANYTHING, NO_CORNERS, NO_MANY, NO_ORDERS, Case, come_of, orders_of, orders_up_to

NINE = tuple(range(1, 10))
FALLING = tuple(range(9, 0, -1))
MIXED = (5, 9, 3, 1, 8, 2, 7, 6, 4)
NAMED = [(4, 2, 3, 1), (3, 4, 1, 2), (3, 5, 1, 4, 2), (4, 2, 5, 1, 3), (4, 5, 3, 1, 2), (3, 5, 1, 6, 2, 4)]
SOME = orders_up_to(4) + NAMED + [NINE, FALLING, MIXED]
UPPERS = orders_up_to(4) + NAMED[2:5]


def corners_of(size):
    """All corners of so many things, sorted."""
    return list(itertools.product(range(1, size + 1), repeat=2))


def count_at(order, corner):
    """What the corner counts, by the words of the document."""
    return sum(thing >= corner[1] for thing in order[:corner[0]])


def matters(order, corner):
    """Whether the corner matters, by the words of the document."""
    m, k = corner
    if m == len(order) or k == 1:
        return False
    at = {thing: place for place, thing in enumerate(order)}
    return order[m - 1] < k and order[m] >= k and at[k] >= m and at[k - 1] < m


def bounds(size, corner):
    """The least and the greatest number that a corner can count."""
    m, k = corner
    return max(0, m - k + 1), min(m, size - k + 1)


def singles(size):
    """The single orders of so many things: one fall, and one of the undone order."""
    found = []
    for order in orders_of(size):
        back = [order.index(thing) for thing in range(1, size + 1)]
        if sum(a > b for a, b in zip(order, order[1:])) == 1 == sum(a > b for a, b in zip(back, back[1:])):
            found.append(order)
    return found


class Examples(Case):
    def test_examples(self):
        self.same(
            [
                over([3, 4, 1, 2], [4, 2, 3, 1]), mattering([4, 2, 3, 1]), least_with(4, (2, 3), 2), least_with(4, (2, 3), 0),
                corner_table([3, 1, 2]),
            ],
            [(2, 3), [(2, 3)], (3, 4, 1, 2), (1, 2, 3, 4), [[1, 1, 1], [2, 1, 1], [3, 2, 1]]],
        )
        self.same([bearing([4, 2, 3, 1]), bearing([1, 2, 3])], [[(2, 3, 4, 1), (4, 1, 2, 3)], []])


class Told(Case):
    def test_counted_and_table(self):
        for order in SOME:
            corners = corners_of(len(order))
            for corner in corners:
                self.tells(count_at(order, corner), counted, order=order, corner=corner)
            size = range(1, len(order) + 1)
            self.tells([[count_at(order, (m, k)) for k in size] for m in size], corner_table, order=order)

    def test_bounds_are_met_and_not_passed(self):
        for size in range(1, 6):
            for corner in corners_of(size):
                found = [counted(order, corner) for order in orders_of(size)]
                self.assertEqual((min(found), max(found)), bounds(size, corner))

    def test_over(self):
        pairs = [(a, b) for size in range(1, 5) for a in orders_of(size) for b in orders_of(size)]
        pairs += [(a, b) for a in orders_of(5)[::5] for b in NAMED[2:5]] + [(FALLING, NINE), (NINE, FALLING), (FALLING, MIXED)]
        for order, other in pairs:
            found = [one for one in corners_of(len(order)) if count_at(order, one) > count_at(other, one)]
            self.tells(found[0] if found else None, over, order=order, other=other)

    def test_below_exactly_if_no_corner_counts_more(self):
        for other in UPPERS:
            lower = come_of(other)
            for order in orders_of(len(other)):
                self.assertIs(over(order, other) is None, order in lower)

    def test_mattering(self):
        for order in SOME + orders_of(5):
            want = [corner for corner in corners_of(len(order)) if matters(order, corner)]
            self.tells(want, mattering, order=order)
        self.tells([], mattering, order=FALLING)
        self.tells([], mattering, order=[1])
        self.tells([(m, m + 1) for m in range(1, 9)], mattering, order=NINE)

    def test_corners_that_matter_tell_what_is_below(self):
        for other in UPPERS:
            lower = come_of(other)
            corners = mattering(other)
            for order in orders_of(len(other)):
                more = [corner for corner in corners if counted(order, corner) > counted(other, corner)]
                self.assertIs(not more, order in lower)

    def test_each_corner_that_matters_is_wanted(self):
        for other in UPPERS + orders_of(5)[::3]:
            corners = mattering(other)
            for corner in corners:
                least = least_with(len(other), corner, counted(other, corner) + 1)
                self.assertEqual([one for one in corners if counted(least, one) > counted(other, one)], [corner])

    def test_least_with(self):
        for size in range(1, 6):
            for corner in corners_of(size):
                for many in range(bounds(size, corner)[1] + 1):
                    enough = [order for order in orders_of(size) if count_at(order, corner) >= many]
                    least = least_with(size, corner, many)
                    self.tells(least, least_with, size=size, corner=corner, many=many)
                    self.assertIs(least.__class__, tuple)
                    self.assertIn(least, enough)
                    if size < 5:
                        self.assertEqual([order for order in enough if least not in come_of(order)], [])
                    if many <= bounds(size, corner)[0]:
                        self.assertEqual(least, tuple(range(1, size + 1)))
        self.tells((1,), least_with, size=1, corner=(1, 1), many=1)
        self.tells((6, 7, 8, 9, 1, 2, 3, 4, 5), least_with, size=9, corner=(4, 6), many=4)
        self.tells((1, 6, 7, 8, 2, 3, 4, 5, 9), least_with, size=9, corner=(4, 6), many=3)
        self.tells(NINE, least_with, size=9, corner=(9, 1), many=9)

    def test_least_order_is_below_just_those_with_so_many(self):
        for order in UPPERS:
            lower = come_of(order)
            size = len(order)
            for corner in corners_of(size):
                for many in range(bounds(size, corner)[1] + 1):
                    self.assertIs(least_with(size, corner, many) in lower, counted(order, corner) >= many)

    def test_singles_are_the_least_orders(self):
        for size in range(1, 6):
            found = []
            for corner in corners_of(size):
                low, high = bounds(size, corner)
                found += [least_with(size, corner, many) for many in range(low + 1, high + 1)]
            self.assertEqual(sorted(found), singles(size))

    def test_is_single(self):
        for size in range(1, 6):
            told = singles(size)
            for order in orders_of(size):
                self.tells(order in told, is_single, order=order)
        self.tells(True, is_single, order=(1, 6, 7, 8, 2, 3, 4, 5, 9))
        self.tells(False, is_single, order=NINE)
        self.tells(False, is_single, order=FALLING)
        self.tells(False, is_single, order=(2, 4, 1, 3))

    def test_bearing(self):
        lower_of = {order: come_of(order) for order in orders_up_to(5)}
        for order in orders_up_to(5):
            below = [single for single in singles(len(order)) if single in lower_of[order]]
            want = [one for one in below if not any(one != other and one in lower_of[other] for other in below)]
            self.tells(want, bearing, order=order)
        self.tells([], bearing, order=NINE)
        self.tells([(1, 6, 7, 8, 2, 3, 4, 5, 9)], bearing, order=(1, 6, 7, 8, 2, 3, 4, 5, 9))
        self.assertEqual(len(bearing(FALLING)), 8)

    def test_bearing_tells_what_is_below(self):
        for other in UPPERS:
            lower = come_of(other)
            for order in orders_of(len(other)):
                self.assertIs(all(single in lower for single in bearing(order)), order in lower)


class Wrong(Case):
    def test_no_orders(self):
        for function in (corner_table, mattering, is_single, bearing):
            self.wrong(function, {"order": [3, 1, 2]}, [("order", InvalidOrder, NO_ORDERS)])

    def test_counted(self):
        rules = [("order", InvalidOrder, NO_ORDERS), ("corner", InvalidCorner, NO_CORNERS)]
        self.wrong(counted, {"order": [3, 1, 2], "corner": (2, 3)}, rules)
        self.wrong(counted, {"order": [1], "corner": (1, 1)}, [("corner", InvalidCorner, [(1, 2), (2, 1), [1, 1]])])

    def test_over(self):
        rules = [("order", InvalidOrder, NO_ORDERS), ("other", InvalidOrder, NO_ORDERS)]
        self.wrong(over, {"order": [3, 1, 2], "other": (1, 2, 3)}, rules)
        self.wrong(over, {"order": [3, 1, 2], "other": (1, 2)}, rules)
        self.fails(UnlikeSizes, {}, over, [1, 2], (1, 2, 3))
        self.fails(UnlikeSizes, {}, over, order=NINE, other=[1])

    def test_least_with(self):
        too_many = [value for value in ANYTHING if value not in (0, 1) or isinstance(value, bool)] + [2, 3, 4, [1]]
        rules = [("size", InvalidMany, NO_MANY), ("corner", InvalidCorner, NO_CORNERS), ("many", InvalidMany, too_many)]
        self.wrong(least_with, {"size": 3, "corner": (2, 3), "many": 1}, rules)
        self.wrong(least_with, {"size": 3, "corner": (1, 1), "many": 1}, rules)
        for size in range(1, 6):
            for corner in corners_of(size):
                high = bounds(size, corner)[1]
                least_with(size, corner, high)
                self.fails(InvalidMany, {"value": high + 1}, least_with, size, corner, high + 1)
