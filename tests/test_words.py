"""[14] and [15]: words, least words, spare letters, positions that lessen a word."""

import itertools

from lowerboards.errors import InvalidMany, InvalidOrder, InvalidWord, TooMany
from lowerboards.orders import level
from lowerboards.words import a_word, is_least, is_lessened, least_words, lessened, spare, word_order
from tests.helper import (
    ANYTHING, NO_MANY, NO_ORDERS, NO_WORDS, NOT_LEAST, Case, order_by, orders_of, orders_up_to, pairs_wrong, subsets,
)

NINE = tuple(range(1, 10))
FALLING = tuple(range(9, 0, -1))
LONG = [1, 2, 3, 4, 5, 6, 7, 8] * 5
RULES = [("many", InvalidMany, NO_MANY), ("word", InvalidWord, NO_WORDS)]


def words_of(many, longest):
    """All words of so many things, up to so many letters."""
    letters = range(1, many)
    return [list(word) for size in range(longest + 1) for word in itertools.product(letters, repeat=size)]


def things_met(word, many):
    """For each letter the things that it exchanges, the lesser one first."""
    told = []
    for at, letter in enumerate(word):
        things = order_by(word[:at], many)
        told.append(tuple(sorted(things[letter - 1:letter + 1])))
    return told


def without(word, positions):
    """The word without the letters at the positions."""
    return [letter for at, letter in enumerate(word) if at not in positions]


def has_least(word, many):
    """Whether the word has as many letters as its order has wrong pairs."""
    return len(pairs_wrong(order_by(word, many))) == len(word)


SOME = [(word, many) for many in (2, 3, 4) for word in words_of(many, 5)] + [
    (LONG, 9), ([8, 7, 6, 5, 4, 3, 2, 1] * 4, 9), ([3, 1, 2, 3, 2, 1, 4, 3, 1, 2], 5), ([], 1), ([], 9), ([1] * 40, 2),
    ([1] * 39, 2),
]


class Examples(Case):
    def test_examples(self):
        self.same(
            [word_order([1, 2, 1], 4), is_least([2, 1, 2, 1], 3), least_words((3, 2, 1)), spare([2, 1, 2, 1], 3)],
            [(3, 2, 1, 4), False, [[1, 2, 1], [2, 1, 2]], (0, 3)],
        )
        self.same(
            [is_lessened([2, 1, 2, 1], 3, [0, 3]), is_lessened([2, 1, 2, 1], 3, (1, 2))], [True, False]
        )


class Told(Case):
    def test_word_order(self):
        for word, many in SOME:
            self.tells(order_by(word, many), word_order, word=word, many=many)
        self.tells((1,), word_order, word=[], many=1)
        self.tells(NINE, word_order, word=[], many=9)

    def test_is_least(self):
        for word, many in SOME:
            self.tells(has_least(word, many), is_least, word=word, many=many)
            met = things_met(word, many)
            self.assertIs(is_least(word, many), len(set(met)) == len(met))

    def test_no_word_has_fewer_letters_than_the_level(self):
        for many in (1, 2, 3, 4):
            fewest = {}
            for word in words_of(many, 6 if many > 2 else 2):
                fewest.setdefault(order_by(word, many), len(word))
            self.assertEqual({order: level(order) for order in orders_of(many)}, fewest)

    def test_a_word(self):
        for order in orders_up_to(5) + [NINE, FALLING, (5, 9, 3, 1, 8, 2, 7, 6, 4)]:
            for kind in (list, tuple):
                given = kind(order)
                word = a_word(given)
                self.assertIs(word.__class__, list)
                self.assertEqual(order_by(word, len(order)), tuple(order))
                self.assertEqual(len(word), len(pairs_wrong(order)))
                self.same(a_word(order=given), word)
                self.assertIsNot(a_word(given), word)
                self.same(given, kind(order))

    def test_least_words(self):
        for many in (1, 2, 3, 4):
            words = {order: [] for order in orders_of(many)}
            for word in words_of(many, 6 if many > 2 else 1):
                if has_least(word, many):
                    words[order_by(word, many)].append(word)
            for order, found in words.items():
                self.tells(sorted(found), least_words, order=order)
        self.tells([[]], least_words, order=NINE)
        self.tells([[1, 8], [8, 1]], least_words, order=[2, 1, 3, 4, 5, 6, 7, 9, 8])

    def test_least_words_near_the_limit(self):
        # No order has just 200: the nearest have 191 and 203.
        order = (1, 2, 4, 9, 3, 6, 5, 8, 7)
        found = least_words(list(order))
        self.assertEqual((len(found), found), (191, sorted(found)))
        self.assertEqual(len(set(map(tuple, found))), 191)
        for word in found:
            self.assertEqual((len(word), order_by(word, 9)), (8, order))
        for many in (203, 204, 207):
            crowded = {203: (2, 3, 4, 6, 1, 8, 7, 5), 204: (2, 7, 1, 6, 3, 4, 5), 207: (2, 3, 5, 6, 7, 1, 8, 9, 4)}[many]
            self.fails(TooMany, {"what": "words", "limit": 200}, least_words, crowded)
        self.fails(TooMany, {"what": "words", "limit": 200}, least_words, order=list(FALLING))

    def test_spare(self):
        for word, many in SOME:
            self.tells(first_spare(word, many), spare, word=word, many=many)
            self.assertIs(spare(word, many) is None, is_least(word, many))
        self.tells((0, 1), spare, word=[1] * 40, many=2)

    def test_lessened(self):
        for word, many in SOME:
            for kind in (list, tuple):
                given = kind(word)
                found = lessened(given, many)
                self.assertIs(found.__class__, list)
                self.assertEqual(found, sorted(set(found)))
                left = without(word, found)
                self.assertEqual(order_by(left, many), order_by(word, many))
                self.assertTrue(has_least(left, many))
                self.assertIs(is_lessened(given, many, found), True)
                self.same(lessened(word=given, many=many), found)
                self.assertIsNot(lessened(given, many), found)
                self.same(given, kind(word))

    def test_is_lessened(self):
        for word, many in [(word, 3) for word in words_of(3, 5)] + [([1, 3, 2, 2, 1, 3], 4), ([2, 1, 2, 1, 2, 3], 4)]:
            right, wrong = [], []
            for positions in subsets(len(word)):
                left = without(word, positions)
                fits = order_by(left, many) == order_by(word, many) and has_least(left, many)
                (right if fits else wrong).extend([positions, list(positions)])
            self.asks(right, wrong, is_lessened, word=word, many=many)
            self.asks(right, wrong, is_lessened, word=tuple(word), many=many)
        self.asks([list(range(40))], [list(range(39)), list(range(1, 40))], is_lessened, word=[1] * 40, many=2)
        self.asks([[]], [[0], [1]], is_lessened, word=[1, 2], many=3)

    def test_is_lessened_of_any_value(self):
        wrong = [value for value in ANYTHING if value not in ([], ())] + [
            [3, 0], [-1, 0, 3], [0, 0, 3], [0, 3, 3], [False, 3], (False, 3), [0, 3, 4], [-4, 3], [0, -1], [0, 3, None], [0, [3]], [(0, 3)],
            {0: 1, 3: 1}, {0, 3}, "03", [0, "3"], [0], [3], [0, 1, 2, 3], [0, 2, 3], [1, 2, 3], [], (),
        ]
        self.asks([[0, 3], (0, 3)], wrong, is_lessened, word=[2, 1, 2, 1], many=3)
        self.asks([[1, 2]], [[True, 2], [1, True], (0, 1), [0, 1, 2], [1]], is_lessened, word=[1, 2, 2], many=3)


def first_spare(word, many):
    """The spare letters of which the later one stands first of all, then the earlier one; None without any."""
    order = order_by(word, many)
    pairs = [(p, q) for q in range(len(word)) for p in range(q)]
    return next((pair for pair in pairs if order_by(without(word, pair), many) == order), None)


class Wrong(Case):
    def test_no_orders(self):
        for function in (a_word, least_words):
            self.wrong(function, {"order": [3, 1, 2]}, [("order", InvalidOrder, NO_ORDERS)])

    def test_many_ahead_of_word(self):
        for function in (word_order, is_least, spare, lessened):
            self.wrong(function, {"word": [1, 2], "many": 3}, RULES)
            for many in (0, 10, None, True):
                self.fails(InvalidMany, {"value": many}, function, word=None, many=many)
        self.wrong(is_lessened, {"word": [1, 2], "many": 3, "value": []}, RULES)

    def test_letters_as_great_as_the_things(self):
        for many in range(1, 10):
            self.fails(InvalidWord, {"value": [many]}, word_order, [many], many)
            self.assertEqual(word_order([many - 1] * (many > 1), many), order_by([many - 1] * (many > 1), many))

    def test_forty_letters_and_more(self):
        for function in (word_order, is_least, spare, lessened):
            function(LONG, 9)
            self.fails(InvalidWord, {"value": LONG + [1]}, function, LONG + [1], 9)
            self.fails(InvalidWord, {"value": (1,) * 42}, function, word=(1,) * 42, many=2)

    def test_words_that_are_not_least_are_taken(self):
        for word in NOT_LEAST:
            self.assertIs(is_least(word, 3), False)
