"""[54] to [56]: letters and pairs, lots that are kept, and the orders that they name."""

import functools
import itertools
import time

from lowerboards.errors import InvalidLot, InvalidMany, InvalidOrder, InvalidWord, TooMany, UnlikeSizes
from lowerboards.four import is_free
from lowerboards.lots import is_kept, kept_lots, lot_of, named, pairs_of, unnamed
from lowerboards.signings import how_many_signings
from lowerboards.webs import web
from lowerboards.words import a_word, least_words
from tests.helper import (
    ANYTHING, FOUR, NO_MANY, NO_ORDERS, NO_WORDS, NOT_LEAST, Case, by_level, come_of, order_by, orders_up_to, pairs_wrong, subsets,
    with_exchange,
)

NINE = tuple(range(1, 10))
FALLING = tuple(range(9, 0, -1))
MIXED = (5, 9, 3, 1, 8, 2, 7, 6, 4)
SHORT = [(word, len(order)) for order in orders_up_to(4) for word in least_words(order)]
FIVE = [(a_word(order), len(order)) for order in FOUR + [(4, 5, 3, 1, 2), (3, 4, 5, 1, 2), (5, 2, 3, 4, 1)]]
TEN = (a_word((5, 4, 3, 2, 1)), 5)
WIDE = [
    ([1, 2, 3, 4, 5, 6, 7, 8], 9), ([8, 7, 6, 5, 4, 3, 2, 1, 8, 7], 9), ([], 9), ([], 1), ([2, 1, 3, 2, 5, 6, 5, 8], 9),
    ([4, 5, 6, 7, 8, 7, 6, 5, 4], 9), ([2, 1, 3, 2, 4, 3, 7, 6, 8, 7], 9),
]
LONG = [(a_word(FALLING), 9), (a_word(MIXED), 9), (a_word((6, 5, 4, 3, 2, 1)), 6), ([1, 2, 3, 4, 5, 6, 7, 8, 1, 2, 3], 9)]
RULES = [("many", InvalidMany, NO_MANY), ("word", InvalidWord, NO_WORDS + NOT_LEAST)]
FEW = {"what": "letters", "limit": 10}
# For the least word 1, 2, 1 of three things.
NO_LOTS = [value for value in ANYTHING if value not in ([], ())] + [
    [3], (0, 3), [-1], [0, 0], [1, 0], (2, 1), [0, 2, 1], [0, 1, 2, 3], [False], [0, True], (False, 1), [0, "1"], [0, None], [0, [1]],
    [(0, 1)], {0: 0}, {0}, "01", b"\x00", [0, 10 ** 29], [0, 1, 1],
]


def pairs_at_last(word, many):
    """For each letter the places at which the two things that it exchanges stand at last: each behind the letters ahead of it."""
    last = order_by(word, many)
    told = []
    things = tuple(range(1, many + 1))
    for letter in word:
        told.append(tuple(sorted(last.index(thing) for thing in things[letter - 1:letter + 1])))
        things = with_exchange(things, letter - 1, letter)
    return told


@functools.lru_cache(None)
def broken_rings(word, many):
    """The sets of positions of all ties of a ring of the web but the greatest one: by going through all rings."""
    at = {pair: position for position, pair in enumerate(pairs_at_last(word, many))}
    found = set()
    begun = [[place] for place in range(many)]
    while begun:
        row = begun.pop()
        for place in range(row[0], many):
            if tuple(sorted((row[-1], place))) in at:
                if place == row[0] and len(row) >= 3:
                    ring = [at[tuple(sorted(step))] for step in zip(row, row[1:] + row[:1])]
                    found.add(frozenset(ring) - {max(ring)})
                if place not in row:
                    begun.append(row + [place])
    return found


def holds_none(word, many, lot):
    """Whether the lot has not all positions of any broken ring."""
    return not any(ring <= set(lot) for ring in broken_rings(tuple(word), many))


def all_kept(word, many):
    """All kept lots, the shorter ones first, those of one length sorted."""
    return [list(lot) for lot in subsets(len(word)) if holds_none(word, many, lot)]


def order_without(word, many, lot):
    """The order of the word without the lot's letters."""
    return order_by([letter for at, letter in enumerate(word) if at not in lot], many)


def orders_of_some(many, word):
    """All orders of so many things, or, of more than four, some, and those that the word's lots name."""
    every = list(itertools.permutations(range(1, many + 1)))
    return every if many <= 4 else every[::29] + [order_without(word, many, lot) for lot in subsets(len(word))[::23]]


class Examples(Case):
    def test_examples(self):
        self.same(
            [pairs_of([1, 2, 1], 3), is_kept([1, 2, 1], 3, [0, 1]), kept_lots([1, 2], 3)],
            [[(1, 2), (0, 2), (0, 1)], False, [[], [0], [1], [0, 1]]],
        )
        self.same([named([1, 2, 1], 3, [0]), lot_of([1, 2, 1], 3, [1, 2, 3]), unnamed([1, 2, 1], 3)], [(3, 1, 2), [1], None])

    def test_the_six_lots_of_three_things(self):
        want = [
            ([], (3, 2, 1)), ([0], (3, 1, 2)), ([1], (1, 2, 3)), ([2], (2, 3, 1)), ([0, 2], (1, 3, 2)), ([1, 2], (2, 1, 3)),
        ]
        self.same([(lot, named([1, 2, 1], 3, lot)) for lot in kept_lots([1, 2, 1], 3)], want)


class Pairs(Case):
    def test_pairs_of(self):
        for word, many in SHORT + FIVE + [TEN] + WIDE + LONG:
            self.tells(pairs_at_last(word, many), pairs_of, word=word, many=many)

    def test_each_wrong_pair_is_that_of_one_letter(self):
        for word, many in SHORT + FIVE + [TEN] + WIDE + LONG:
            order = order_by(word, many)
            pairs = pairs_of(word, many)
            self.assertEqual(sorted(pairs), web(order))
            if word:
                i, j = pairs[-1]
                self.assertEqual(j, i + 1)
                self.assertGreater(order[i], order[j])


class Kept(Case):
    def test_is_kept(self):
        for word, many in SHORT:
            for lot in subsets(len(word)):
                self.tells(holds_none(word, many, lot), is_kept, word=word, many=many, lot=lot)
        for word, many in FIVE + WIDE[1:2] + WIDE[5:]:
            for lot in subsets(len(word)):
                self.assertIs(is_kept(word, many, lot), holds_none(word, many, lot))

    def test_is_kept_of_long_words(self):
        word, many = LONG[2]
        for start in range(15):
            for end in range(start, 16):
                lot = list(range(start, end))
                self.tells(holds_none(word, many, lot), is_kept, word=word, many=many, lot=lot)
        self.tells(True, is_kept, word=LONG[0][0], many=9, lot=[])
        self.tells(True, is_kept, word=LONG[0][0], many=9, lot=[0, 35])
        self.tells(False, is_kept, word=LONG[0][0], many=9, lot=list(range(36)))

    def test_kept_lots(self):
        for word, many in SHORT + FIVE + WIDE:
            self.tells(all_kept(word, many), kept_lots, word=word, many=many)
        self.same(kept_lots(*TEN), all_kept(*TEN))
        self.tells([[]], kept_lots, word=[], many=1)
        self.assertEqual(len(kept_lots(*TEN)), 120)

    def test_as_many_as_ringless_signings_whichever_word_it_is(self):
        for order in orders_up_to(4) + FOUR[1:3]:
            for word in least_words(order):
                self.assertEqual(len(kept_lots(word, len(order))), how_many_signings(order))
        for word, many in WIDE + [TEN]:
            self.assertEqual(len(kept_lots(word, many)), how_many_signings(order_by(word, many)))


class Names(Case):
    def test_named(self):
        for word, many in SHORT:
            for lot in subsets(len(word)):
                self.tells(order_without(word, many, lot), named, word=word, many=many, lot=lot)
        for word, many in LONG:
            for lot in ([], [0], list(range(0, len(word), 2)), list(range(len(word)))):
                self.tells(order_without(word, many, lot), named, word=word, many=many, lot=lot)

    def test_names_are_below_and_those_of_kept_lots_unlike(self):
        for word, many in SHORT + FIVE + [TEN]:
            order = order_by(word, many)
            below = come_of(order)
            self.assertLessEqual({named(word, many, lot) for lot in subsets(len(word))}, below)
            names = [named(word, many, lot) for lot in kept_lots(word, many)]
            self.assertEqual(len(set(names)), len(names))
            self.assertIs(set(names) == below, is_free(order))

    def test_lot_of_there_and_back(self):
        for word, many in SHORT + FIVE:
            lots = {order_without(word, many, lot): lot for lot in all_kept(word, many)}
            for order in orders_of_some(many, word):
                self.tells(lots.get(order), lot_of, word=word, many=many, order=order)
        for word, many in WIDE + [TEN]:
            for lot in all_kept(word, many)[::37]:
                self.tells(lot, lot_of, word=word, many=many, order=order_without(word, many, lot))
            if many == 9:
                self.tells(None, lot_of, word=word, many=many, order=FALLING)
        self.tells([], lot_of, word=[], many=9, order=NINE)

    def test_unnamed(self):
        for word, many in SHORT + FIVE + [TEN] + WIDE[2:4]:
            order = order_by(word, many)
            names = [order_without(word, many, lot) for lot in all_kept(word, many)]
            left = [one for one in by_level(come_of(order)) if one not in names]
            self.tells(left[0] if left else None, unnamed, word=word, many=many)
            self.assertIs(unnamed(word, many) is None, is_free(order))
        for word, many in WIDE:
            self.assertIs(unnamed(word, many) is None, is_free(order_by(word, many)))

    def test_which_is_not_named_may_hang_on_the_word(self):
        below = come_of((4, 2, 3, 1))
        left = {tuple(sorted(one for one in below if lot_of(word, 4, one) is None)) for word in least_words((4, 2, 3, 1))}
        self.assertEqual([len(orders) for orders in left], [2, 2])
        words = least_words((4, 5, 2, 3, 1))
        self.assertEqual({unnamed(word, 5) for word in words}, {(1, 3, 4, 2, 5), (1, 3, 5, 2, 4)})

    def test_ten_letters_of_nine_things(self):
        word = [1, 2, 3, 4, 5, 6, 7, 8, 1, 2]
        self.assertEqual(len(pairs_wrong(order_by(word, 9))), 10)
        self.assertEqual(kept_lots(word, 9), all_kept(word, 9))
        order = order_by(word, 9)
        names = [order_without(word, 9, lot) for lot in all_kept(word, 9)]
        left = [one for one in by_level(come_of(order)) if one not in names]
        self.tells(left[0] if left else None, unnamed, word=word, many=9)

    def test_within_a_second(self):
        for word, many in WIDE + [TEN]:
            for function, given in ((kept_lots, []), (unnamed, []), (lot_of, [tuple(range(many, 0, -1))])):
                began = time.perf_counter()
                function(word, many, *given)
                self.assertLess(time.perf_counter() - began, 1)
        for word, many in LONG:
            for function, given in ((pairs_of, []), (is_kept, [[0, 2]]), (named, [[0, 2]])):
                began = time.perf_counter()
                function(word, many, *given)
                self.assertLess(time.perf_counter() - began, 1)


class Wrong(Case):
    def test_many_ahead_of_word(self):
        for function in (pairs_of, kept_lots, unnamed):
            self.wrong(function, {"word": [1, 2, 1], "many": 3}, RULES)
            for many in (0, 10, None, True):
                self.fails(InvalidMany, {"value": many}, function, word=None, many=many)

    def test_lots(self):
        rules = RULES + [("lot", InvalidLot, NO_LOTS)]
        for function in (is_kept, named):
            self.wrong(function, {"word": [1, 2, 1], "many": 3, "lot": [0, 2]}, rules)
            self.wrong(function, {"word": [], "many": 1, "lot": []}, [("lot", InvalidLot, [[0], (0,), [-1], None, [False]])])
            self.wrong(function, {"word": LONG[0][0], "many": 9, "lot": []}, [("lot", InvalidLot, [[36], [0, 36], (35, 35)])])

    def test_lot_of(self):
        rules = RULES + [("order", InvalidOrder, NO_ORDERS)]
        for order in ([1, 2, 3], (1, 2), NINE):
            self.wrong(lot_of, {"word": [1, 2, 1], "many": 3, "order": order}, rules)
        for word, order in (([1, 2, 3, 4, 5, 6, 7, 8, 1, 2, 3], [2, 1]), ([1, 2], NINE[:8]), ([], (1,))):
            self.fails(UnlikeSizes, {}, lot_of, word, 9, order)
            self.fails(UnlikeSizes, {}, lot_of, order=order, many=9, word=word)
        for order in ([1, 2], (1,), list(NINE)):
            self.fails(UnlikeSizes, {}, lot_of, LONG[2][0], 6, order)
        for order in NO_ORDERS[:40]:
            self.fails(InvalidOrder, {"value": order}, lot_of, LONG[0][0], 9, order)

    def test_more_than_ten_letters(self):
        for word, many in LONG:
            for given in (list(word), tuple(word)):
                for function in (kept_lots, unnamed):
                    self.fails(TooMany, FEW, function, given, many)
                    self.fails(TooMany, FEW, function, word=given, many=many)
                self.fails(TooMany, FEW, lot_of, given, many, list(range(1, many + 1)))
                self.fails(TooMany, FEW, lot_of, word=given, many=many, order=order_by(word, many))
