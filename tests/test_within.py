"""[28]: words within words."""

import random

from lowerboards.below import is_below
from lowerboards.errors import InvalidMany, InvalidOrder, InvalidWord, UnlikeSizes
from lowerboards.within import is_within, within
from lowerboards.words import a_word, least_words
from tests.helper import (
    ANYTHING, NO_MANY, NO_ORDERS, NO_WORDS, NOT_LEAST, Case, come_of, order_by, orders_of, orders_up_to, pairs_wrong, subsets,
)

NINE = tuple(range(1, 10))
FALLING = tuple(range(9, 0, -1))
RULES = [
    ("order", InvalidOrder, NO_ORDERS), ("many", InvalidMany, NO_MANY), ("word", InvalidWord, NO_WORDS + NOT_LEAST),
]


def is_least_word(word, order):
    """Whether the word is a least word of the order."""
    return order_by(word, len(order)) == tuple(order) and len(word) == len(pairs_wrong(order))


class Examples(Case):
    def test_examples(self):
        self.same(
            [
                is_within([2, 1, 3], [1, 2, 1], 3, [0]), is_within([2, 1, 3], [1, 2, 1], 3, [2]),
                is_within([1, 2, 3], [1, 2, 1], 3, [0, 2]), within([1, 3, 2], [1], 3),
            ],
            [True, True, False, None],
        )


class Told(Case):
    def stands_within(self, order, word, many):
        """The positions are those of a least word of the order."""
        given = (list(order), tuple(word), many)
        found = within(*given)
        self.assertIs(found.__class__, list)
        self.assertEqual(found, sorted(set(found)))
        self.assertTrue(is_least_word([word[at] for at in found], order))
        self.assertIs(is_within(*given, found), True)
        self.assertIs(is_within(*given, value=tuple(found)), True)
        self.same(within(order=tuple(order), word=list(word), many=many), found)
        self.assertIsNot(within(*given), found)
        self.same(given, (list(order), tuple(word), many))

    def test_within_every_least_word_exactly_if_below(self):
        for other in orders_up_to(4):
            lower = come_of(other)
            size = len(other)
            for word in least_words(other):
                for order in orders_of(size):
                    if order in lower:
                        self.stands_within(order, word, size)
                    else:
                        self.tells(None, within, order=order, word=word, many=size)

    def test_more_things(self):
        dice = random.Random(11)
        for size in (5, 6, 9):
            for _ in range(60):
                order, other = dice.sample(range(1, size + 1), size), dice.sample(range(1, size + 1), size)
                if is_below(order, other):
                    self.stands_within(order, a_word(other), size)
                else:
                    self.assertIsNone(within(order, a_word(other), size))
        self.stands_within(NINE, a_word(FALLING), 9)
        self.stands_within(FALLING, a_word(FALLING), 9)
        self.stands_within((5, 9, 3, 1, 8, 2, 7, 6, 4), a_word(FALLING), 9)
        self.stands_within([1], [], 1)
        self.tells(None, within, order=FALLING, word=a_word(NINE), many=9)

    def test_is_within(self):
        for word in ([1, 2, 1], [2, 1], [1, 3, 2], [1, 2, 3, 1, 2, 1], [2, 1, 3, 2]):
            many = 4 if 3 in word else 3
            for order in orders_of(many)[::3]:
                right, wrong = [], []
                for kept in subsets(len(word)):
                    fits = is_least_word([word[at] for at in kept], order)
                    (right if fits else wrong).extend([kept, list(kept)])
                self.asks(right, wrong, is_within, order=order, word=word, many=many)

    def test_is_within_of_any_value(self):
        wrong = [value for value in ANYTHING if value not in ([], ())] + [
            [1, 0], [True, 2], [0, True], [False, 1], (False, 1), [0, 1, 2], [0], [1], [0, 2], [0, 1, 3], [0, -2], [-3, 1], [0, 0, 1],
            [0, 1, None], [0, "1"], [[0, 1]], [(0, 1)], {0: 0, 1: 1}, {0, 1}, "01", [0, 10 ** 29], [], (), [0, 1, 1],
        ]
        self.asks([[0, 1], (0, 1)], wrong, is_within, order=[2, 3, 1], word=[1, 2, 1], many=3)
        self.asks([[], ()], [[0], [0, 2], [0, 1, 2], None, "", {}, False], is_within, order=(1, 2, 3), word=(1, 2, 1), many=3)
        self.asks([[1]], [[True], [0], [-2], [], [-3, -2]], is_within, order=[1, 3, 2], word=[1, 2, 1], many=3)
        self.asks([[0], [2]], [[-1], [-3], [0, 2], [3]], is_within, order=[2, 1, 3], word=[1, 2, 1], many=3)
        self.asks([[]], [[0], None], is_within, order=[1], word=[], many=1)


class Wrong(Case):
    def test_no_orders_no_many_no_words(self):
        self.wrong(within, {"order": [2, 1, 3], "word": [1, 2], "many": 3}, RULES)
        self.wrong(is_within, {"order": [2, 1, 3], "word": (1, 2), "many": 3, "value": [0]}, RULES)
        self.wrong(within, {"order": [2, 1], "word": [1, 2], "many": 3}, RULES)
        self.wrong(is_within, {"order": [2, 1], "word": [1, 2], "many": 3, "value": None}, RULES)

    def test_unlike_sizes(self):
        for order, word, many in (([2, 1, 3], [1], 2), ((1,), [], 2), (NINE, [1, 2], 3), ([1, 2, 3], (3,), 4)):
            self.fails(UnlikeSizes, {}, within, order, word, many)
            self.fails(UnlikeSizes, {}, is_within, order, word, many, [])
            self.fails(UnlikeSizes, {}, is_within, order=order, word=word, many=many, value=None)
