"""[33] and [34]: layings, how many, one by one, and tops."""

import math

from lowerboards.boards import beside_boards, board_of, turned_board, undone_board
from lowerboards.errors import InvalidBoard, InvalidMany, InvalidOrder, NotLaying, TooMany
from lowerboards.four import is_free
from lowerboards.layings import all_layings, before, first_laying, how_many, tops
from lowerboards.orders import order_of
from tests.helper import (
    ANYTHING, FOUR, NO_BOARDS, NO_ORDERS, OWN, STEPS, WHOLE, Case, boards_of, boards_up_to, come_of, layings_of, orders_up_to,
)

NINE = tuple(range(1, 10))
FALLING = tuple(range(9, 0, -1))
MIXED = (5, 9, 3, 1, 8, 2, 7, 6, 4)
SOME = boards_up_to(4) + boards_of(5)[::29]
SIX = [[(1, 6)] * 6, [(at, at) for at in range(1, 7)], [(1, 2), (1, 4), (2, 5), (3, 5), (3, 6), (5, 6)]]
LARGE = [WHOLE, OWN, STEPS, [(1, 3)] * 3 + [(2, 9)] * 3 + [(4, 9)] * 3, board_of(MIXED), undone_board(STEPS), turned_board(STEPS)]
NO_BOARD = [("board", InvalidBoard, NO_BOARDS)]


def number_laid(board, gone=()):
    """How many layings a board has, place by place."""
    if len(gone) == len(board):
        return 1
    low, high = board[len(gone)]
    return sum(number_laid(board, (*gone, thing)) for thing in range(low, high + 1) if thing not in gone)


class Examples(Case):
    def test_examples(self):
        board = board_of([3, 1, 2])
        self.same(
            [
                all_layings(board), first_laying(board, 2), before(board, (3, 1, 2)), how_many(board_of([4, 2, 3, 1])),
                tops([(1, 4)] * 4),
            ],
            [[(1, 2, 3), (1, 3, 2), (2, 1, 3), (3, 1, 2)], (2, 1, 3), 3, 24, [(4, 3, 2, 1)]],
        )


class Told(Case):
    def test_how_many_and_all_layings(self):
        for board in SOME + SIX:
            told = layings_of(board)
            self.tells(told, all_layings, board=board)
            self.tells(len(told), how_many, board=board)
            self.assertEqual(told[0], tuple(range(1, len(board) + 1)))

    def test_how_many_of_nine_places(self):
        self.tells(362880, how_many, board=WHOLE)
        self.tells(1, how_many, board=OWN)
        self.tells(1, how_many, board=[(1, 1)])
        for board in LARGE[2:]:
            self.tells(number_laid(board), how_many, board=board)
        for board in boards_of(4)[::17]:
            for other in boards_of(5)[::400]:
                self.assertEqual(how_many(beside_boards(board, other)), how_many(board) * how_many(other))

    def test_first_laying_and_before_there_and_back(self):
        for board in SOME:
            for many, order in enumerate(layings_of(board)):
                self.same(first_laying(board, many), order)
                self.same(before(board, order), many)
        for board in boards_up_to(3) + boards_of(5)[::400]:
            for many, order in enumerate(layings_of(board)):
                self.tells(order, first_laying, board=board, many=many)
                self.tells(many, before, board=board, order=order)

    def test_first_laying_and_before_of_nine_places(self):
        self.tells(NINE, first_laying, board=WHOLE, many=0)
        self.tells(FALLING, first_laying, board=WHOLE, many=362879)
        self.tells(362879, before, board=WHOLE, order=FALLING)
        self.tells(NINE, first_laying, board=OWN, many=0)
        self.tells(0, before, board=OWN, order=NINE)
        for many in range(0, 362880, 45121):
            counts = [many // math.factorial(8 - place) % (9 - place) for place in range(9)]
            self.tells(order_of(counts), first_laying, board=WHOLE, many=many)
            self.tells(many, before, board=WHOLE, order=order_of(counts))
        for board in LARGE[2:]:
            last = how_many(board) - 1
            told = []
            for many in (0, 1, last // 3, last // 2, last - 1, last):
                order = first_laying(board, many)
                self.assertTrue(all(low <= thing <= high for thing, (low, high) in zip(order, board)))
                self.assertEqual(sorted(order), list(NINE))
                self.assertEqual(before(board, order), many)
                told.append(order)
            self.assertEqual(told, sorted(told))

    def test_what_is_below_a_laying_is_a_laying(self):
        for board in boards_up_to(4):
            told = set(layings_of(board))
            for order in told:
                self.assertLessEqual(come_of(order), told)

    def test_layings_of_boards_moved(self):
        for board in SOME + SIX + LARGE:
            self.assertEqual(how_many(undone_board(board)), how_many(board))
            self.assertEqual(how_many(turned_board(board)), how_many(board))


class Tops(Case):
    def test_tops(self):
        for board in boards_up_to(4) + boards_of(5)[::61] + SIX[1:]:
            told = layings_of(board)
            lower = {order: come_of(order) for order in told}
            want = [order for order in told if not any(other != order and order in lower[other] for other in told)]
            self.tells(want, tops, board=board)
            for order in told:
                self.assertTrue(any(order in lower[top] for top in want))
        self.tells([(6, 5, 4, 3, 2, 1)], tops, board=SIX[0])
        self.tells([(1,)], tops, board=[(1, 1)])

    def test_several_tops(self):
        self.tells([(1, 3, 2), (2, 1, 3)], tops, board=[(1, 2), (1, 3), (2, 3)])

    def test_tops_of_boards_of_orders(self):
        for order in orders_up_to(5) + [FOUR[3]]:
            found = tops(board_of(order))
            if is_free(order):
                self.same(found, [order])
            else:
                self.assertTrue([top for top in found if top not in come_of(order)])
        self.same(tops(board_of(FOUR[0])), [(4, 3, 2, 1)])


class Wrong(Case):
    def test_no_boards(self):
        for function in (how_many, all_layings, tops):
            self.wrong(function, {"board": [(1, 2), (2, 2)]}, NO_BOARD)

    def test_more_than_six_places(self):
        for size in (7, 8, 9):
            for board in ([(1, size)] * size, [(at, at) for at in range(1, size + 1)], tuple([(1, size)] * size)):
                for function in (all_layings, tops):
                    self.fails(TooMany, {"what": "places", "limit": 6}, function, board)
                    self.fails(TooMany, {"what": "places", "limit": 6}, function, board=board)

    def test_first_laying(self):
        no_many = [value for value in ANYTHING if value not in (0, 1, 2) or isinstance(value, bool)] + [4, 5, 24, [0], (1,), {0}]
        rules = NO_BOARD + [("many", InvalidMany, no_many)]
        self.wrong(first_laying, {"board": [(1, 3), (1, 3), (2, 3)], "many": 3}, rules)
        for board in SOME[::7] + SIX + LARGE:
            most = how_many(board)
            for many in (most, most + 1, -1):
                self.fails(InvalidMany, {"value": many}, first_laying, board, many)
            self.assertEqual(before(board, first_laying(board, most - 1)), most - 1)

    def test_before(self):
        rules = NO_BOARD + [("order", InvalidOrder, NO_ORDERS)]
        self.wrong(before, {"board": [(1, 3), (1, 3), (2, 3)], "order": [3, 1, 2]}, rules)
        self.wrong(before, {"board": [(1, 3), (1, 3), (2, 3)], "order": (2, 3, 1)}, rules)
        for board in boards_up_to(3) + boards_of(4)[::31] + [tuple(board) for board in boards_of(3)[::5]]:
            told = layings_of(board)
            for order in orders_up_to(4):
                if order not in told:
                    self.fails(NotLaying, {}, before, board, order)
                    self.fails(NotLaying, {}, before, board=board, order=list(order))
        self.fails(NotLaying, {}, before, OWN, FALLING)
        self.fails(NotLaying, {}, before, WHOLE, [1])
        self.fails(NotLaying, {}, before, [(1, 1)], NINE)
