"""[43], [44] and [46]: the four ways, loose corners, even orders."""

import itertools

from lowerboards.corners import counted, mattering
from lowerboards.errors import InvalidOrder
from lowerboards.four import first_way, four_ways, is_even, is_free, loose_corner, uneven_way
from lowerboards.orders import turned, undone
from tests.helper import (
    FOUR, NO_ORDERS, Case, all_standings, come_of, layings_of, orders_of, orders_up_to, stretches_of, with_things_put_in,
)

NINE = tuple(range(1, 10))
FALLING = tuple(range(9, 0, -1))
MIXED = (5, 9, 3, 1, 8, 2, 7, 6, 4)
UNEVEN = [(3, 4, 1, 2), (4, 2, 3, 1)]
LARGE = [NINE, FALLING, MIXED, (3, 5, 1, 9, 2, 4, 8, 6, 7), (2, 3, 4, 5, 6, 7, 8, 9, 1), (1, 4, 6, 2, 7, 3, 5, 8, 9)]
ENOUGH = orders_up_to(5) + orders_of(6)[::11] + [FOUR[3]] + LARGE


def first_of(order, ways):
    """The first of some ways that stands in the order, with its first standing, by going through all places."""
    found = [(way, places) for way in ways for places in all_standings(order, way)]
    return found[0] if found else None


def loose(order):
    """All corners that matter and count more than they have to."""
    return [(m, k) for m, k in mattering(order) if counted(order, (m, k)) > max(0, m - k + 1)]


class Examples(Case):
    def test_examples(self):
        self.same(
            [first_way([5, 2, 3, 4, 1]), loose_corner([4, 2, 3, 1]), is_free([3, 4, 1, 2]), is_even([3, 4, 1, 2])],
            [((4, 2, 3, 1), (0, 1, 2, 4)), (2, 3), True, False],
        )
        self.same(uneven_way((4, 2, 3, 1)), ((4, 2, 3, 1), (0, 1, 2, 3)))


class Four(Case):
    def test_four_ways(self):
        self.tells(FOUR, four_ways)
        for one, other in itertools.permutations(FOUR, 2):
            self.assertEqual(all_standings(one, other), [])
        told = four_ways()
        told.clear()
        self.same(four_ways(), FOUR)

    def test_first_way_and_is_free(self):
        for order in ENOUGH:
            want = first_of(order, FOUR)
            self.tells(want, first_way, order=order)
            self.tells(want is None, is_free, order=order)

    def test_the_four_and_things_put_in(self):
        for way in FOUR:
            self.tells((way, tuple(range(len(way)))), first_way, order=way)
            for order in with_things_put_in(way):
                self.tells(first_of(order, FOUR), first_way, order=order)
                self.tells(False, is_free, order=order)
                for longer in with_things_put_in(order)[::17]:
                    self.assertEqual(first_way(longer), first_of(longer, FOUR))
        # The first way, not the one that stands first.
        order = (3, 5, 1, 4, 2, 9, 7, 8, 6)
        self.tells(((4, 2, 3, 1), (5, 6, 7, 8)), first_way, order=order)

    def test_small_orders_are_free(self):
        self.assertEqual([order for order in orders_up_to(4) if not is_free(order)], [(4, 2, 3, 1)])

    def test_undone_and_turned_orders_go_along(self):
        for way in FOUR:
            self.assertEqual(undone(way), way)
        self.assertEqual([turned(way) for way in FOUR], [FOUR[0], FOUR[2], FOUR[1], FOUR[3]])
        for order in ENOUGH:
            for other in (undone(order), turned(order)):
                self.assertIs(is_free(other), is_free(order))
                self.assertIs(is_even(other), is_even(order))


class Loose(Case):
    def test_loose_corner(self):
        for order in ENOUGH + [longer for way in FOUR for longer in with_things_put_in(way)]:
            found = loose(order)
            self.tells(found[0] if found else None, loose_corner, order=order)

    def test_the_first_of_several(self):
        several = [order for order in orders_of(6) if len(loose(order)) > 1]
        self.assertTrue(several)
        for order in several:
            self.tells(min(loose(order)), loose_corner, order=order)

    def test_free_exactly_if_no_corner_is_loose_exactly_if_all_layings_are_below(self):
        for order in orders_up_to(5) + orders_of(6)[::41] + [FOUR[3]]:
            below = come_of(order)
            self.assertIs(is_free(order), set(layings_of(stretches_of(order))) == below)
            self.assertIs(is_free(order), loose_corner(order) is None)
        for order in orders_of(6) + LARGE:
            self.assertIs(is_free(order), loose_corner(order) is None)


class Even(Case):
    def test_uneven_way_and_is_even(self):
        for order in ENOUGH + UNEVEN + [longer for way in UNEVEN for longer in with_things_put_in(way)]:
            want = first_of(order, UNEVEN)
            self.tells(want, uneven_way, order=order)
            self.tells(want is None, is_even, order=order)

    def test_3412_is_looked_at_first(self):
        self.tells(((3, 4, 1, 2), (0, 1, 3, 4)), uneven_way, order=(4, 5, 3, 1, 2))
        self.tells(((3, 4, 1, 2), (4, 5, 6, 7)), uneven_way, order=(4, 2, 3, 1, 7, 8, 5, 6))

    def test_of_four_things(self):
        self.assertEqual([order for order in orders_up_to(4) if not is_even(order)], UNEVEN)

    def test_even_orders_are_free(self):
        for order in ENOUGH:
            self.assertTrue(is_free(order) or not is_even(order))
        for way in FOUR:
            self.assertIs(is_even(way), False)


class Wrong(Case):
    def test_no_orders(self):
        for function in (first_way, is_free, loose_corner, is_even, uneven_way):
            self.wrong(function, {"order": [3, 1, 2]}, [("order", InvalidOrder, NO_ORDERS)])
