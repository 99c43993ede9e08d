"""[35] and [36]: rook rows, hit rows, outside rows, stairs."""

import itertools
import math

from lowerboards.boards import board_of, turned_board, undone_board
from lowerboards.errors import InvalidBoard, NotStair
from lowerboards.layings import how_many
from lowerboards.rooks import hit_row, is_stair, outside_row, rook_row, stair_product
from tests.helper import NO_BOARDS, OWN, STEPS, WHOLE, Case, boards_of, boards_up_to, layings_of, orders_of, orders_up_to

MIXED = (5, 9, 3, 1, 8, 2, 7, 6, 4)
SOME = boards_up_to(3) + boards_of(4)[::3] + boards_of(5)[::149]
LARGE = [WHOLE, OWN, STEPS, board_of(MIXED), [(1, 3)] * 3 + [(2, 9)] * 3 + [(4, 9)] * 3]
FACTORIALS = [math.factorial(many) for many in range(10)]


def is_on(board, place, thing):
    """Whether a cell is on the board."""
    return board[place][0] <= thing <= board[place][1]


def rooks_laid(size, lets):
    """For each k, in how many ways k rooks can be laid on the cells that are let: by going through all."""
    told = []
    for many in range(size + 1):
        rows = itertools.combinations(range(size), many)
        laid = itertools.product(list(rows), list(itertools.permutations(range(1, size + 1), many)))
        told.append(sum(all(lets(*cell) for cell in zip(places, things)) for places, things in laid))
    return told


def hits(board):
    """For each k, how many orders have just k things within the stretches: by going through all."""
    found = [sum(is_on(board, *cell) for cell in enumerate(order)) for order in orders_of(len(board))]
    return [found.count(many) for many in range(len(board) + 1)]


class Examples(Case):
    def test_examples(self):
        board = board_of([3, 1, 2])
        self.same(
            [rook_row(board), hit_row(board), outside_row(board), stair_product(undone_board(board))],
            [[1, 8, 14, 4], [0, 0, 2, 4], [1, 1, 0, 0], [2, 2, 1]],
        )


class Rows(Case):
    def test_rook_row(self):
        for board in SOME:
            self.tells(rooks_laid(len(board), lambda *cell: is_on(board, *cell)), rook_row, board=board)

    def test_outside_row(self):
        for board in SOME:
            self.tells(rooks_laid(len(board), lambda *cell: not is_on(board, *cell)), outside_row, board=board)

    def test_hit_row(self):
        for board in boards_up_to(4) + boards_of(5)[::29]:
            self.tells(hits(board), hit_row, board=board)

    def test_rows_of_one_place_and_of_nine(self):
        self.tells([1, 1], rook_row, board=[(1, 1)])
        self.tells([0, 1], hit_row, board=[(1, 1)])
        self.tells([1, 0], outside_row, board=[(1, 1)])
        self.tells([math.comb(9, k) ** 2 * FACTORIALS[k] for k in range(10)], rook_row, board=WHOLE)
        self.tells([0] * 9 + [FACTORIALS[9]], hit_row, board=WHOLE)
        self.tells([1] + [0] * 9, outside_row, board=WHOLE)
        self.tells([math.comb(9, k) for k in range(10)], rook_row, board=OWN)
        self.tells([133496, 133497, 66744, 22260, 5544, 1134, 168, 36, 0, 1], hit_row, board=OWN)
        self.assertEqual((outside_row(OWN)[1], outside_row(OWN)[9]), (72, 133496))

    def test_facts(self):
        for board in SOME + boards_of(5)[::61] + LARGE:
            size = len(board)
            rooks, hit, outside = rook_row(board), hit_row(board), outside_row(board)
            self.assertEqual([len(rooks), len(hit), len(outside)], [size + 1] * 3)
            self.assertEqual((rooks[0], outside[0]), (1, 1))
            self.assertEqual(rooks[1] + outside[1], size * size)
            self.assertEqual((rooks[-1], hit[-1]), (how_many(board), how_many(board)))
            self.assertEqual(sum(hit), FACTORIALS[size])
            self.assertEqual(hit[0], outside[-1])
            for many in range(size + 1):
                chosen = sum(count * math.comb(k, many) for k, count in enumerate(hit))
                self.assertEqual(chosen, rooks[many] * FACTORIALS[size - many])

    def test_rows_of_boards_moved(self):
        for board in SOME + LARGE:
            for moved in (undone_board(board), turned_board(board)):
                self.assertEqual(rook_row(moved), rook_row(board))
                self.assertEqual(outside_row(moved), outside_row(board))
                self.assertEqual(hit_row(moved), hit_row(board))


class Stairs(Case):
    def test_is_stair(self):
        for board in boards_up_to(4) + LARGE:
            self.tells(all(low == 1 for low, _ in board), is_stair, board=board)
        self.tells(True, is_stair, board=[(1, 1)])
        self.tells(False, is_stair, board=[(1, 2), (2, 2)])

    def test_stair_product(self):
        for board in boards_up_to(4) + boards_of(5)[::29] + LARGE:
            if is_stair(board):
                self.tells([high - at for at, (_, high) in enumerate(board)], stair_product, board=board)
                self.assertEqual(math.prod(stair_product(board)), how_many(board))
                self.assertTrue(is_stair(turned_board(undone_board(board))))
            else:
                self.fails(NotStair, {}, stair_product, board)
                self.fails(NotStair, {}, stair_product, board=tuple(board))
        self.tells([9, 8, 7, 6, 5, 4, 3, 2, 1], stair_product, board=WHOLE)
        for order in ((3, 9, 5, 4, 2, 8, 7, 6, 1), (2, 3, 4, 5, 6, 7, 8, 9, 1)):
            self.assertEqual(math.prod(stair_product(board_of(order))), how_many(board_of(order)))

    def test_product_is_the_number_of_layings_listed(self):
        for board in boards_up_to(4):
            if is_stair(board):
                self.assertEqual(math.prod(stair_product(board)), len(layings_of(board)))

    def test_board_of_an_order_is_a_stair_exactly_if_1_stands_last(self):
        for order in orders_up_to(5) + [MIXED, (2, 3, 4, 5, 6, 7, 8, 9, 1)]:
            self.assertIs(is_stair(board_of(order)), order[-1] == 1)


class Wrong(Case):
    def test_no_boards(self):
        for function in (rook_row, hit_row, outside_row, is_stair, stair_product):
            self.wrong(function, {"board": [(1, 2), (1, 2)]}, [("board", InvalidBoard, NO_BOARDS)])
            self.wrong(function, {"board": WHOLE}, [("board", InvalidBoard, [WHOLE + [(1, 9)], [(2, 2), (1, 2)]])])
