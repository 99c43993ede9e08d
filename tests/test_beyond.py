"""[45]: what lies beyond an order, and beyond papers."""

from lowerboards.beyond import beyond, beyond_paper, is_beyond, is_beyond_paper
from lowerboards.corners import corner_table
from lowerboards.errors import InvalidOrder
from lowerboards.four import first_way
from tests.helper import (
    ANYTHING, FOUR, NO_ORDERS, Case, all_standings, come_of, layings_of, orders_of, orders_up_to, shown, stretches_of, with_things_put_in,
)

NINE = tuple(range(1, 10))
FALLING = tuple(range(9, 0, -1))
MIXED = (5, 9, 3, 1, 8, 2, 7, 6, 4)
ASIDE = dict(zip(FOUR, [(3, 4, 1, 2), (1, 4, 5, 2, 3), (3, 4, 1, 2, 5), (1, 4, 5, 2, 3, 6)]))
NOT_FREE = [order for order in orders_up_to(5) if first_way(order)] + [FOUR[3]]
LARGE = [
    MIXED, (9, 2, 3, 4, 5, 6, 7, 8, 1), (3, 5, 1, 4, 2, 9, 7, 8, 6), (3, 5, 1, 9, 2, 4, 8, 6, 7), (1, 2, 3, 6, 8, 4, 9, 5, 7),
]
FREE = [order for order in orders_up_to(4) if not first_way(order)] + [NINE, FALLING, (2, 3, 4, 5, 6, 7, 8, 9, 1)]


def lying_beyond(order, way, places):
    """The order with the things at the places as the order beside the way tells."""
    things = dict(zip(sorted(way), sorted(order[place] for place in places)))
    told = dict(enumerate(order))
    told.update({place: things[size] for place, size in zip(places, ASIDE[way])})
    return tuple(told.values())


def all_papers(order):
    """All beyond papers of an order."""
    found = [(way, places) for way in FOUR for places in all_standings(order, way)]
    return [(way, places, lying_beyond(order, way, places)) for way, places in found]


def lies_in_board(order, laying):
    """Whether the laying is one of the order's board."""
    return all(low <= thing <= high for thing, (low, high) in zip(laying, stretches_of(order)))


def kinds_of(paper):
    """The same paper with lists and tuples in it."""
    way, places, laying = paper
    return [paper, (list(way), list(places), list(laying)), (way, list(places), laying), (list(way), places, list(laying))]


def changed(things):
    """The things, a tuple, with one less, one more, one changed, a bool or something else in the place of one."""
    told = [things[:-1], things[1:], (*things, things[-1] + 1), (*things, 0), things[::-1], things * 2, ()]
    for at in range(len(things)):
        for one in (things[at] + 1, things[at] - 1, things[at] == 1, str(things[at]), None, (things[at],), things[at - 1]):
            told.append(things[:at] + (one,) + things[at + 1:])
    return [value for value in told if shown(value) != shown(things)]


class Examples(Case):
    def test_examples(self):
        self.same(
            [beyond_paper([4, 2, 3, 1]), is_beyond([4, 2, 3, 1], [4, 3, 2, 1]), is_beyond([4, 2, 3, 1], (4, 1, 3, 2))],
            [((4, 2, 3, 1), (0, 1, 2, 3), (3, 4, 1, 2)), True, False],
        )
        self.assertIs(is_beyond_paper((5, 2, 3, 4, 1), ([4, 2, 3, 1], [0, 2, 3, 4], [4, 2, 5, 1, 3])), True)


class Beyond(Case):
    def test_beyond(self):
        for order in NOT_FREE + [longer for way in FOUR for longer in with_things_put_in(way)[::5]]:
            for given in (order, list(order)):
                found = beyond(given)
                self.assertIs(found.__class__, tuple)
                self.assertEqual(sorted(found), sorted(order))
                self.assertTrue(lies_in_board(order, found))
                self.assertNotIn(found, come_of(order))
                self.assertIs(is_beyond(given, found), True)
                self.same(beyond(order=given), found)
            self.same(given, list(order))

    def test_beyond_of_nine_things(self):
        for order in LARGE:
            found = beyond(order)
            self.assertTrue(lies_in_board(order, found))
            self.assertIs(is_beyond(order, found), True)
            self.assertIs(is_beyond(order, order), False)

    def test_nothing_beyond_a_free_one(self):
        for order in FREE:
            self.tells(None, beyond, order=order)
            self.tells(None, beyond_paper, order=order)
        for order in orders_up_to(5):
            self.assertIs(beyond(order) is None, first_way(order) is None)

    def test_is_beyond(self):
        for order in orders_up_to(4) + NOT_FREE[1:-1:3]:
            told = layings_of(stretches_of(order))
            below = come_of(order)
            right = [one for one in told if one not in below]
            wrong = [one for one in orders_of(len(order)) if one not in right]
            self.asks(right + list(map(list, right)), wrong + list(map(list, wrong)), is_beyond, order=order)

    def test_is_beyond_of_any_value(self):
        self.asks([(3, 4, 1, 2), [3, 4, 1, 2]], changed((3, 4, 1, 2)), is_beyond, order=[4, 2, 3, 1])
        wrong = NO_ORDERS + [(1,), [2, 1], (3, 1, 2), NINE, list(FALLING), "3412", {3: 3, 4: 4, 1: 1, 2: 2}]
        self.asks([], wrong + [[3, 4, True, 2], (3, 4, True, 2), [[3, 4, 1, 2]]], is_beyond, order=(4, 2, 3, 1))
        self.asks([], NO_ORDERS + [(1,), [2, 1]], is_beyond, order=[2, 1])
        self.asks([], [[1], (1,), [True], 1], is_beyond, order=[1])


class Papers(Case):
    def test_beyond_paper(self):
        for order in NOT_FREE + LARGE + [longer for way in FOUR for longer in with_things_put_in(way)]:
            way, places = first_way(order)
            self.tells((way, places, lying_beyond(order, way, places)), beyond_paper, order=order)
            self.assertIs(is_beyond_paper(order, beyond_paper(order)), True)
        for way in FOUR:
            self.same(beyond_paper(way), (way, tuple(range(len(way))), ASIDE[way]))

    def test_all_papers(self):
        for order in NOT_FREE[::3] + LARGE[1:4] + with_things_put_in(FOUR[1])[::6]:
            papers = all_papers(order)
            self.assertTrue(papers)
            self.asks([kind for paper in papers for kind in kinds_of(paper)], [list(papers[0])], is_beyond_paper, order=order)

    def test_just_these_are_papers(self):
        for order in NOT_FREE[:9:2] + with_things_put_in(FOUR[0])[::7]:
            papers = all_papers(order)
            layings = orders_of(len(order))[::3] + [paper[2] for paper in papers]
            for way in FOUR + list(ASIDE.values()) + [(2, 1), (1,)]:
                for places in [paper[1] for paper in papers] + all_standings(order, way):
                    for laying in layings:
                        paper = (way, places, laying)
                        self.assertIs(is_beyond_paper(order, paper), paper in papers)

    def test_free_orders_have_none(self):
        for order in FREE:
            for way in FOUR:
                places = tuple(range(len(way)))
                self.asks([], [(way, places, ASIDE[way]), (way, places, order), None], is_beyond_paper, order=order)

    def test_each_corner_that_counts_more_counts_one_more(self):
        for order in NOT_FREE + LARGE:
            for _, _, laying in all_papers(order):
                self.assertTrue(lies_in_board(order, laying))
                more = [
                    high - low for row, lower in zip(corner_table(laying), corner_table(order))
                    for high, low in zip(row, lower) if high > low
                ]
                self.assertEqual(set(more), {1})

    def test_is_beyond_paper_of_any_value(self):
        order = (5, 2, 3, 4, 1)
        way, places, laying = FOUR[0], (0, 2, 3, 4), (4, 2, 5, 1, 3)
        wrong = ANYTHING + [
            [way, places, laying], (way, places), (way,), (way, places, laying, laying), (places, way, laying), (laying, places, way),
            ((way, places, laying),), "4231", {0: way, 1: places, 2: laying},
        ]
        wrong += [(value, places, laying) for value in ANYTHING + changed(way)]
        wrong += [(way, value, laying) for value in ANYTHING + changed(places)]
        wrong += [(way, places, value) for value in ANYTHING + changed(laying)]
        wrong += [(way, [False, 2, 3, 4], laying), ((4, 2, 3, True), places, laying), (way, places, [4, 2, 5, True, 3])]
        wrong += [(way, (2, 0, 3, 4), laying), (way, (0, 0, 2, 3), laying), (way, (0, 2, 3, 4, 5), laying), (way, (-5, 2, 3, 4), laying)]
        self.asks([(way, places, laying), (list(way), list(places), list(laying))], wrong, is_beyond_paper, order=order)
        self.asks([], wrong[:60], is_beyond_paper, order=[1])


class Wrong(Case):
    def test_no_orders(self):
        for function in (beyond, beyond_paper):
            self.wrong(function, {"order": [3, 1, 2]}, [("order", InvalidOrder, NO_ORDERS)])
        for function in (is_beyond, is_beyond_paper):
            for value in (None, [3, 4, 1, 2], (FOUR[0], (0, 1, 2, 3), (3, 4, 1, 2))):
                self.wrong(function, {"order": [4, 2, 3, 1], "value": value}, [("order", InvalidOrder, NO_ORDERS)])
