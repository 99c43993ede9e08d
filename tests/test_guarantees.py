"""[4]: the guarantees over the whole program, each by both of its ways."""

import itertools
import random

from lowerboards.below import chain, is_below, is_chain
from lowerboards.beyond import beyond, beyond_paper, is_beyond, is_beyond_paper
from lowerboards.boards import board_of, is_laying
from lowerboards.chains import falling_chain, label, rising_chain
from lowerboards.claims import contrary, is_paper_of, is_true, paper_of
from lowerboards.corners import bearing, counted, mattering, over
from lowerboards.four import first_way, is_even, is_free, loose_corner
from lowerboards.growing import growing, growths
from lowerboards.layings import all_layings, before, first_laying, how_many, tops
from lowerboards.levels import is_alike, level_row
from lowerboards.lists import all_below
from lowerboards.lots import kept_lots, lot_of, named, unnamed
from lowerboards.multipliers import multipliers, row_of
from lowerboards.orders import level, turned, undone
from lowerboards.regions import base, step_row, turnable
from lowerboards.rows import falls_row, is_trivial, lusztig, roads_row
from lowerboards.signings import all_signings, how_many_signings, is_ringless
from lowerboards.stretches import length
from lowerboards.ways import bottom_ways, uneven_paper
from lowerboards.within import is_within, within
from lowerboards.words import a_word
from tests.helper import FOUR, Case, come_of, drawn_below, drawn_order, orders_of, orders_up_to, with_things_put_in


def drawn_orders(seed):
    """Orders of six to nine things: drawn ones, and such in which one of the four ways stands, or nothing is uneven."""
    dice = random.Random(seed)
    drawn = [drawn_order(dice, size) for size in (6, 6, 7, 7, 8, 8, 9, 9, 9, 9)]
    longer = [order for way in FOUR for order in with_things_put_in(way)[::9]]
    sizes = [order for order in orders_of(6)[::23] if is_even(order)]
    even = [tuple(order) + (7, 9, 8) for order in sizes]
    return drawn + longer + even + [tuple(range(9, 0, -1)), tuple(range(1, 10)), (4, 5, 6, 7, 8, 9, 1, 2, 3), (9, 2, 3, 4, 5, 6, 7, 8, 1)]


FEW = orders_up_to(5)
MANY = drawn_orders(4)


class BoardOrBeyond(Case):
    def test_the_orders_below_are_the_layings_or_one_is_told_that_is_not_below(self):
        for order in FEW:
            lower, layings = come_of(order), set(all_layings(board_of(order)))
            self.assertLessEqual(lower, layings)
            self.assertIs(lower == layings, is_free(order))
            self.assertIs(beyond(order) is None, is_free(order))
            if not is_free(order):
                self.assertIn(beyond(order), layings - lower)

    def test_of_more_things(self):
        dice = random.Random(41)
        for order in MANY:
            board = board_of(order)
            for _ in range(10):
                lower = drawn_below(dice, order)
                self.assertTrue(is_laying(board, lower))
                self.assertEqual(first_laying(board, before(board, lower)), lower)
                laying = first_laying(board, dice.randrange(how_many(board)))
                if is_free(order):
                    self.assertTrue(is_below(laying, order))
                self.assertIs(is_beyond(order, laying), not is_below(laying, order))
            if not is_free(order):
                one = beyond(order)
                corner = over(one, order)
                self.assertTrue(is_laying(board, one) and is_beyond_paper(order, beyond_paper(order)))
                self.assertGreater(counted(one, corner), counted(order, corner))

    def test_the_tops(self):
        for order in FEW:
            found = tops(board_of(order))
            self.assertIs(found == [order], is_free(order))
            self.assertIs(all(is_below(top, order) for top in found), is_free(order))


class Signings(Case):
    def test_never_more_than_orders_below_and_as_many_exactly_if_free(self):
        for order in FEW:
            self.assertEqual(how_many_signings(order), len(all_signings(order)))
            self.assertLessEqual(how_many_signings(order), len(come_of(order)))
            self.assertIs(how_many_signings(order) == len(come_of(order)), is_free(order))

    def test_each_has_a_lot_that_names_an_order_of_its_own(self):
        for order in FEW:
            word, many = a_word(order), len(order)
            lots = kept_lots(word, many)
            names = [named(word, many, lot) for lot in lots]
            self.assertEqual(len(lots), how_many_signings(order))
            self.assertEqual(len(set(names)), len(lots))
            self.assertLessEqual(set(names), come_of(order))
            self.assertIs(set(names) == come_of(order), is_free(order))
            self.assertIs(unnamed(word, many) is None, is_free(order))
            for lot, name in list(zip(lots, names))[::11]:
                self.assertEqual(lot_of(word, many, name), lot)

    def test_of_more_things(self):
        for order in MANY:
            self.assertLessEqual(how_many_signings(order), how_many(board_of(order)))
            self.assertIs(how_many_signings(order) == how_many(board_of(order)), is_free(order))
            self.assertTrue(is_ringless(order, base(order)))


class FourWays(Case):
    def test_by_standing_and_by_corners(self):
        for order in FEW + MANY + orders_of(6)[::7]:
            self.assertIs(first_way(order) is None, is_free(order))
            self.assertIs(loose_corner(order) is None, is_free(order))
            self.assertIs(is_true(("board", order)), is_free(order))
            self.assertEqual({is_free(undone(order)), is_free(turned(order))}, {is_free(order)})


class Levels(Case):
    def test_alike_and_a_product_exactly_if_even(self):
        for order in FEW:
            row = level_row(order)
            self.assertIs(row == row[::-1], is_even(order))
            self.assertIs(step_row(order) == row, is_even(order))
            self.assertIs(is_trivial(order), is_even(order))
            if is_even(order):
                self.assertEqual(row_of(multipliers(order)), row)
                self.assertEqual(row_of(sorted(growths(order, growing(order)))), row)

    def test_of_more_things(self):
        for order in MANY + orders_of(6)[::7]:
            told = [is_even(order), is_alike(order), multipliers(order) is not None, growing(order) is not None, uneven_paper(order) is None]
            told.append(len(bottom_ways(order)) == level(order))
            self.assertEqual(len(set(told)), 1, order)
            if is_even(order):
                self.assertTrue(is_free(order))
                self.assertEqual(sum(row_of(multipliers(order))), how_many_signings(order))
                self.assertEqual(sorted(growths(order, growing(order)))[1:], multipliers(order))


class BothWays(Case):
    def right(self, order, other, below):
        """All ways of telling whether the order is below the other one say this."""
        self.assertIs(is_below(order, other), below)
        found, corner = chain(order, other), over(order, other)
        self.assertEqual((found is not None, corner is None), (below, below))
        if below:
            self.assertTrue(is_chain(order, other, found))
            self.assertEqual(len(found), level(other) - level(order))
        else:
            self.assertGreater(counted(order, corner), counted(other, corner))
        word, many = a_word(other), len(other)
        positions = within(order, word, many)
        self.assertIs(positions is not None, below)
        self.assertTrue(not below or is_within(order, word, many, positions))
        self.assertIs(all(counted(order, one) <= counted(other, one) for one in mattering(other)), below)
        self.assertIs(all(is_below(one, other) for one in bearing(order)), below)
        self.assertIs(is_below(undone(order), undone(other)), below)
        self.assertIs(is_below(turned(order), turned(other)), below)

    def test_all_of_few_things(self):
        for size in (1, 2, 3, 4):
            for other in orders_of(size):
                lower = come_of(other)
                self.assertEqual(set(all_below(other)), lower)
                for order in orders_of(size):
                    self.right(order, other, order in lower)

    def test_some_of_more_things(self):
        dice = random.Random(42)
        for other in orders_of(5)[::5]:
            lower = come_of(other)
            for order in orders_of(5)[::7]:
                self.right(order, other, order in lower)
        for other in MANY:
            self.right(drawn_below(dice, other), other, True)
            order = drawn_order(dice, len(other))
            self.right(order, other, chain(order, other) is not None)


class Stretches(Case):
    def test_one_chain_rises_and_one_falls_and_both_rows_are_alike(self):
        dice = random.Random(43)
        given = [(order, other) for other in orders_up_to(4) for order in come_of(other)]
        given += [(drawn_below(dice, other), other) for other in orders_of(5)[::2]]
        for order, other in given:
            self.assertEqual(roads_row(order, other), falls_row(order, other))
            self.assertEqual(lusztig(order, other)[0], 1)
            for function, step in ((rising_chain, 1), (falling_chain, -1)):
                labels = [label(lower, upper) for lower, upper in itertools.pairwise(function(order, other))][::step]
                self.assertEqual(len(labels), length(order, other))
                self.assertEqual(labels, sorted(set(labels)))

    def test_chains_of_more_things(self):
        dice = random.Random(44)
        for other in MANY:
            order = drawn_below(dice, other)
            for function, step in ((rising_chain, 1), (falling_chain, -1)):
                found = function(order, other)
                labels = [label(lower, upper) for lower, upper in itertools.pairwise(found)][::step]
                self.assertEqual((found[0], found[-1], len(labels)), (order, other, length(order, other)))
                self.assertEqual(labels, sorted(set(labels)))
                self.assertTrue(all(is_below(order, one) and is_below(one, other) for one in found))


class Papers(Case):
    def test_each_answer_has_a_paper(self):
        dice = random.Random(45)
        for order in FEW[::3] + MANY:
            other = drawn_order(dice, len(order))
            claims = [("board", order), ("alike", order), ("below", other, order), ("ringless", order, [dice.randrange(2) for _ in base(order)])]
            claims.append(("same", a_word(order), a_word(other), len(order)))
            for claim in claims:
                one, two = (claim, contrary(claim)) if is_true(claim) else (contrary(claim), claim)
                self.assertIs(is_true(one), True)
                self.assertIs(is_true(two), False)
                self.assertIs(is_paper_of(one, paper_of(one)), True)
                self.assertIs(is_paper_of(two, paper_of(one)), False)
                self.assertIsNone(paper_of(two))

    def test_the_roads_lie_like_rooms_with_doors(self):
        for order in orders_up_to(4):
            found = {tuple(base(order)): 0}
            for signing in found_in_turn(order, found):
                self.assertEqual(found[signing], sum(signing))
            self.assertEqual(sorted(found), [tuple(signing) for signing in all_signings(order)])


def found_in_turn(order, found):
    """The ringless signings that are reached from those that are found, one behind another."""
    waiting = list(found)
    for signing in waiting:
        for tie in turnable(order, signing):
            further = tuple(1 - sign if at == tie else sign for at, sign in enumerate(signing))
            if further not in found:
                found[further] = found[signing] + 1
                waiting.append(further)
    return waiting
