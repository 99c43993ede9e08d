"""[41] and [42]: ways that stand in an order, things put in and taken out."""

import random

from lowerboards.errors import InvalidOrder, InvalidPlace, InvalidPlaces, InvalidThing, TooFew, TooMany
from lowerboards.standing import at_places, put_in, standings, stands, taken_out
from tests.helper import (
    ANYTHING, FOUR, NO_ORDERS, NO_PLACE_LISTS, NO_PLACES, Case, all_standings, numbered, orders_of, orders_up_to, subsets,
    way_there, with_thing,
)

NINE = tuple(range(1, 10))
FALLING = tuple(range(9, 0, -1))
MIXED = (5, 9, 3, 1, 8, 2, 7, 6, 4)
NAMED = FOUR + [(3, 4, 1, 2), (4, 5, 3, 1, 2)]
LARGE = [NINE, FALLING, MIXED]
NO_ORDER = ("order", InvalidOrder, NO_ORDERS)


def without_place(order, place):
    """The order with a place taken out."""
    return numbered(order[:place] + order[place + 1:])


class Examples(Case):
    def test_examples(self):
        self.same(
            [
                at_places([5, 1, 4, 2, 3], [0, 1, 3]), standings((5, 1, 4, 2, 3), [2, 1]), stands([1, 2, 3], (2, 1)),
                put_in([2, 1], 1, 2), taken_out((3, 2, 1), 1), put_in([1], 1, 1),
            ],
            [
                (3, 1, 2), [(0, 1), (0, 2), (0, 3), (0, 4), (2, 3), (2, 4)], None,
                (3, 2, 1), (2, 1), (2, 1),
            ],
        )


class Standing(Case):
    def standing(self, order, way):
        """All standings and the first one."""
        want = all_standings(order, way)
        self.tells(want, standings, order=order, way=way)
        self.tells(want[0] if want else None, stands, order=order, way=way)

    def test_all_choices_of_places(self):
        for order in orders_up_to(4):
            for way in orders_up_to(4):
                self.standing(order, way)

    def test_more_things(self):
        for order in orders_of(5)[::7] + NAMED + LARGE:
            for way in orders_up_to(3)[::2] + NAMED:
                self.standing(order, way)
        self.assertEqual(len(standings(FALLING, (4, 3, 2, 1))), 126)

    def test_each_order_stands_in_itself_and_1_in_each(self):
        for order in orders_up_to(4) + NAMED + LARGE:
            self.tells([tuple(range(len(order)))], standings, order=order, way=order)
            self.tells([(place,) for place in range(len(order))], standings, order=order, way=[1])
            self.tells((0,), stands, order=order, way=[1])

    def test_ways_of_more_things_stand_nowhere(self):
        for order, way in (([1], (2, 1)), ([2, 1], (3, 2, 1)), ((4, 2, 3, 1), FALLING), (NINE[:8], NINE), ((1,), NINE)):
            self.tells([], standings, order=order, way=way)
            self.tells(None, stands, order=order, way=way)

    def test_at_places(self):
        for order in orders_up_to(4) + NAMED + LARGE:
            for places in subsets(len(order))[1:]:
                self.tells(way_there(order, places), at_places, order=order, places=places)

    def test_wrong(self):
        for function in (standings, stands):
            self.wrong(function, {"order": [3, 1, 2], "way": (2, 1)}, [NO_ORDER, ("way", InvalidOrder, NO_ORDERS)])
            self.wrong(function, {"order": [1], "way": (2, 1)}, [NO_ORDER, ("way", InvalidOrder, NO_ORDERS)])
        self.wrong(at_places, {"order": [3, 1, 2], "places": [0, 2]}, [NO_ORDER, ("places", InvalidPlaces, NO_PLACE_LISTS)])
        self.wrong(at_places, {"order": [1], "places": [0]}, [("places", InvalidPlaces, [[1], (0, 1), [], [0, 0], [False]])])


class PutAndTaken(Case):
    def test_put_in(self):
        for order in orders_up_to(4) + NAMED + [numbered(MIXED[1:])]:
            for place in range(len(order) + 1):
                for thing in range(1, len(order) + 2):
                    want = with_thing(order, place, thing)
                    self.tells(want, put_in, order=order, place=place, thing=thing)
                    self.assertEqual(taken_out(want, place), order)

    def test_put_in_at_the_ends(self):
        self.tells((2, 3, 4, 1), put_in, order=[1, 2, 3], place=3, thing=1)
        self.tells((1, 2, 3, 4), put_in, order=[1, 2, 3], place=3, thing=4)
        self.tells((4, 1, 2, 3), put_in, order=[1, 2, 3], place=0, thing=4)
        self.tells((1, 2, 3, 4), put_in, order=[1, 2, 3], place=0, thing=1)
        self.tells(FALLING, put_in, order=FALLING[1:], place=0, thing=9)

    def test_taken_out(self):
        for order in orders_up_to(4)[1:] + NAMED + LARGE:
            for place in range(len(order)):
                self.tells(without_place(order, place), taken_out, order=order, place=place)

    def test_the_way_at_places_is_what_is_left(self):
        dice = random.Random(5)
        for order in orders_of(4) + NAMED + LARGE:
            for places in dice.sample(subsets(len(order))[1:], 10):
                gone = [place for place in range(len(order)) if place not in places]
                dice.shuffle(gone)
                left = order
                for at, place in enumerate(gone):
                    left = taken_out(left, place - sum(other < place for other in gone[:at]))
                self.assertEqual(left, at_places(order, places))

    def test_what_stands_stands_where_something_was_put_in(self):
        for order in NAMED:
            for way in NAMED + [(1, 2), (2, 1), (3, 1, 2)]:
                for place in range(len(order) + 1):
                    for thing in range(1, len(order) + 2):
                        self.assertTrue(stands(order, way) is None or stands(put_in(order, place, thing), way) is not None)

    def test_put_in_wrong(self):
        no_places = [value for value in ANYTHING if value not in (0, 1, 2) or isinstance(value, bool)] + [4, 5, [0], (1,), {0}]
        no_things = [value for value in ANYTHING if value not in (1, 2) or isinstance(value, bool)] + [5, [1], (2,), {3}]
        rules = [NO_ORDER, ("place", InvalidPlace, no_places), ("thing", InvalidThing, no_things)]
        self.wrong(put_in, {"order": [3, 1, 2], "place": 3, "thing": 4}, rules)
        rules = [("place", InvalidPlace, [10, -1, True, None]), ("thing", InvalidThing, [0, 11, False, [1]])]
        self.wrong(put_in, {"order": NINE, "place": 9, "thing": 10}, rules)

    def test_put_in_nine_things(self):
        for order in (NINE, FALLING, list(MIXED)):
            for place, thing in ((0, 1), (9, 10), (4, 5)):
                self.fails(TooMany, {"what": "things", "limit": 9}, put_in, order, place, thing)
                self.fails(TooMany, {"what": "things", "limit": 9}, put_in, order=order, place=place, thing=thing)

    def test_taken_out_wrong(self):
        self.wrong(taken_out, {"order": [3, 1, 2], "place": 1}, [NO_ORDER, ("place", InvalidPlace, NO_PLACES)])
        self.wrong(taken_out, {"order": [1], "place": 0}, [("place", InvalidPlace, [1, -1, False, None, [0]])])
        self.fails(TooFew, {}, taken_out, [1], 0)
        self.fails(TooFew, {}, taken_out, order=(1,), place=0)
