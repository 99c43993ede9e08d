"""[6], [31] and [32]: boards, boards of orders, boards moved."""

import itertools

from lowerboards.below import is_below
from lowerboards.boards import beside_boards, blocks_of, board_of, is_board, is_laying, turned_board, undone_board
from lowerboards.errors import InvalidBoard, InvalidOrder, TooMany
from lowerboards.orders import beside, turned, undone
from tests.helper import (
    NO_BOARDS, NO_ORDERS, OWN, STEPS, WHOLE, Case, boards_of, boards_up_to, layings_of, orders_of, orders_up_to,
)

NINE = tuple(range(1, 10))
FALLING = tuple(range(9, 0, -1))
MIXED = (5, 9, 3, 1, 8, 2, 7, 6, 4)
NAMED = [(3, 5, 1, 4, 2), (4, 2, 5, 1, 3), (4, 5, 3, 1, 2), (3, 5, 1, 6, 2, 4), (5, 2, 3, 4, 1), (2, 1, 3, 5, 4)]
NO_BOARD = [("board", InvalidBoard, NO_BOARDS)]


def holds(value):
    """Whether a list of tuples of two numbers is a board, by the words of the document."""
    size = len(value)
    lows, highs = [low for low, _ in value], [high for _, high in value]
    return (
        all(1 <= low <= size and 1 <= high <= size and low <= high for low, high in value)
        and lows == sorted(lows) and highs == sorted(highs)
        and all(low <= at + 1 <= high for at, (low, high) in enumerate(value))
    )


class Examples(Case):
    def test_examples(self):
        board = board_of([3, 1, 2])
        self.same(
            [
                board, undone_board(board), is_laying(board, (2, 1, 3)), is_laying(board, (2, 3, 1)),
                blocks_of(beside_boards([(1, 1)], [(1, 2), (1, 2)])),
            ],
            [[(1, 3), (1, 3), (2, 3)], [(1, 2), (1, 3), (1, 3)], True, False, [[(1, 1)], [(1, 2), (1, 2)]]],
        )


class Boards(Case):
    def test_is_board_of_all_stretches_of_up_to_three_places(self):
        for size in (1, 2, 3):
            stretches = list(itertools.product(range(size + 2), repeat=2))
            found = [one for one in itertools.product(stretches, repeat=size) if is_board(one)]
            self.assertEqual(found, [one for one in itertools.product(stretches, repeat=size) if holds(one)])
            self.assertEqual(sorted(map(list, found)), sorted(boards_of(size)))

    def test_is_board_of_any_value(self):
        right = [[(1, 1)], ((1, 1),), [(1, 2), (2, 2)], WHOLE, OWN, STEPS, tuple(STEPS)]
        self.asks(right, NO_BOARDS + [[(1, 10)] * 10, [list(one) for one in STEPS], STEPS[:8], STEPS[::-1]], is_board)

    def test_each_part_of_nine_places_is_looked_at(self):
        for at, (low, high) in enumerate(STEPS):
            for one in ([low, high], (low,), (low, high, high), (low, str(high)), (low, None), (0, high), (low, 10), (high + 1, high)):
                self.asks([], [STEPS[:at] + [one] + STEPS[at + 1:]], is_board)
        for value in ((True, 9), (False, 9)):
            self.asks([], [[value] + WHOLE[1:]], is_board)

    def test_board_of(self):
        for order in orders_up_to(5) + NAMED + [NINE, FALLING, MIXED]:
            places = range(len(order))
            want = [(min(order[at:]), max(order[:at + 1])) for at in places]
            self.tells(want, board_of, order=order)
            self.assertIs(is_board(want), True)
        self.tells(WHOLE, board_of, order=FALLING)
        self.tells(OWN, board_of, order=NINE)
        self.tells([(1, 4)] * 4, board_of, order=[4, 2, 3, 1])

    def test_is_laying(self):
        for board in boards_up_to(3) + boards_of(4)[::9]:
            told = layings_of(board)
            for order in orders_up_to(4):
                self.tells(order in told, is_laying, board=board, order=order)
        for order in (NINE, FALLING, MIXED):
            self.tells(True, is_laying, board=WHOLE, order=order)
            self.tells(order == NINE, is_laying, board=OWN, order=order)
        self.tells(False, is_laying, board=[(1, 1)], order=NINE)
        self.tells(False, is_laying, board=WHOLE, order=[1])

    def test_what_is_below_is_a_laying_of_no_wider_stretches(self):
        for other in orders_up_to(4) + NAMED:
            board = board_of(other)
            self.assertTrue(is_laying(board, other))
            for order in orders_of(len(other)):
                if is_below(order, other):
                    self.assertTrue(is_laying(board, order))
                    for (low, high), (lower, higher) in zip(board, board_of(order)):
                        self.assertTrue(low <= lower and higher <= high)

    def test_no_order_has_this_board(self):
        self.assertNotIn([(1, 2), (2, 2)], [board_of(order) for order in orders_of(2)])
        self.assertTrue(is_board([(1, 2), (2, 2)]))


class Moved(Case):
    def test_undone_board(self):
        for board in boards_up_to(4) + [WHOLE, OWN, STEPS]:
            size = len(board)
            want = []
            for thing in range(1, size + 1):
                places = [at + 1 for at, (low, high) in enumerate(board) if low <= thing <= high]
                want.append((places[0], places[-1]))
            self.tells(want, undone_board, board=board)
            self.assertTrue(is_board(want))
            self.assertEqual(undone_board(undone_board(board)), board)

    def test_turned_board(self):
        for board in boards_up_to(4) + [WHOLE, OWN, STEPS]:
            size = len(board)
            want = [(size + 1 - board[-1 - at][1], size + 1 - board[-1 - at][0]) for at in range(size)]
            self.tells(want, turned_board, board=board)
            self.assertTrue(is_board(want))
            self.assertEqual(turned_board(turned_board(board)), board)

    def test_layings_are_undone_and_turned(self):
        for board in boards_up_to(3) + boards_of(4)[::2]:
            told = layings_of(board)
            self.assertEqual(layings_of(undone_board(board)), sorted(undone(order) for order in told))
            self.assertEqual(layings_of(turned_board(board)), sorted(turned(order) for order in told))

    def test_boards_of_undone_and_turned_orders(self):
        for order in orders_up_to(5) + NAMED + [NINE, FALLING, MIXED]:
            self.assertEqual(board_of(undone(order)), undone_board(board_of(order)))
            self.assertEqual(board_of(turned(order)), turned_board(board_of(order)))

    def test_beside_boards(self):
        for board in boards_up_to(3):
            for other in boards_up_to(2):
                size = len(board)
                want = board + [(low + size, high + size) for low, high in other]
                self.tells(want, beside_boards, board=board, other=other)
                self.assertEqual(
                    layings_of(want), sorted(beside(one, behind) for one in layings_of(board) for behind in layings_of(other))
                )
        self.tells(OWN, beside_boards, board=OWN[:4], other=OWN[:5])
        self.tells(OWN[:1] + [(2, 9)] * 8, beside_boards, board=[(1, 1)], other=[(1, 8)] * 8)

    def test_blocks_of(self):
        for board in boards_up_to(4) + [WHOLE, OWN, STEPS]:
            size = len(board)
            cuts = [at for at in range(1, size) if max(high for _, high in board[:at]) == at < min(low for low, _ in board[at:])]
            ends = zip([0] + cuts, cuts + [size])
            want = [[(low - start, high - start) for low, high in board[start:end]] for start, end in ends]
            self.tells(want, blocks_of, board=board)
        self.tells([[(1, 1)]] * 9, blocks_of, board=OWN)
        self.tells([WHOLE], blocks_of, board=WHOLE)
        self.tells([[(1, 1)]], blocks_of, board=[(1, 1)])
        self.tells([[(1, 2), (2, 2)], [(1, 1)]], blocks_of, board=[(1, 2), (2, 2), (3, 3)])
        self.tells([[(1, 3), (2, 3), (3, 3)]], blocks_of, board=[(1, 3), (2, 3), (3, 3)])
        self.tells([[(1, 1), (1, 2)]], blocks_of, board=[(1, 1), (1, 2)])

    def test_blocks_beside_one_another_are_the_board(self):
        for board in boards_up_to(4) + [WHOLE, OWN, STEPS]:
            whole = []
            for block in blocks_of(board):
                self.assertTrue(is_board(block))
                self.assertEqual(blocks_of(block), [block])
                whole = beside_boards(whole, block) if whole else block
            self.assertEqual(whole, board)


class Wrong(Case):
    def test_no_boards(self):
        for function in (undone_board, turned_board, blocks_of):
            self.wrong(function, {"board": [(1, 2), (2, 2)]}, NO_BOARD)

    def test_no_order(self):
        self.wrong(board_of, {"order": [3, 1, 2]}, [("order", InvalidOrder, NO_ORDERS)])
        self.wrong(is_laying, {"board": [(1, 1)], "order": [1]}, NO_BOARD + [("order", InvalidOrder, NO_ORDERS)])

    def test_beside_boards(self):
        rules = NO_BOARD + [("other", InvalidBoard, NO_BOARDS)]
        self.wrong(beside_boards, {"board": [(1, 1)], "other": ((1, 1),)}, rules)
        self.wrong(beside_boards, {"board": WHOLE, "other": OWN}, rules)
        for board, other in ((WHOLE, [(1, 1)]), (((1, 1),), OWN), (OWN[:5], OWN[:5])):
            self.fails(TooMany, {"what": "places", "limit": 9}, beside_boards, board, other)
            self.fails(TooMany, {"what": "places", "limit": 9}, beside_boards, board=board, other=other)
