"""[16]: turns of words, and how least words of one order are led into one another."""

import random

from lowerboards.errors import InvalidMany, InvalidTurn, InvalidWord, UnlikeOrders
from lowerboards.turns import is_lead, lead, turn, turns_of
from lowerboards.words import a_word, least_words
from tests.helper import (
    ANYTHING, NO_MANY, NO_WORDS, NOT_LEAST, Case, order_by, orders_up_to, pairs_wrong, with_exchange,
)

MANY = ("many", InvalidMany, NO_MANY)
LONG = [1, 3, 2, 3, 2, 1, 8, 7] * 5


def done(word, step):
    """The word behind a turn, by the words of the document; None if it is no turn of it."""
    kind, at = step
    word = list(word)
    if kind == "past" and at + 1 < len(word) and abs(word[at] - word[at + 1]) > 1:
        return word[:at] + [word[at + 1], word[at]] + word[at + 2:]
    if kind == "round" and at + 2 < len(word):
        x, y, z = word[at:at + 3]
        if x == z and abs(x - y) == 1:
            return word[:at] + [y, x, y] + word[at + 3:]
    return None


def all_turns(word):
    """All turns of a word, sorted."""
    steps = [(kind, at) for kind in ("past", "round") for at in range(len(word))]
    return [step for step in steps if done(word, step) is not None]


def some_word(order, dice):
    """A least word of the order, whichever comes."""
    word, things = [], tuple(order)
    while pairs_wrong(things):
        at = dice.choice([at for at in range(len(things) - 1) if things[at] > things[at + 1]])
        word.insert(0, at + 1)
        things = with_exchange(things, at, at + 1)
    return word


class Examples(Case):
    def test_examples(self):
        self.same(
            [turns_of([1, 3, 2, 1, 2], 4), turn([1, 3, 2, 1, 2], 4, ("round", 2)), is_lead([1, 3], [3, 1], 4, [("past", 0)])],
            [[("past", 0), ("round", 2)], [1, 3, 1, 2, 1], True],
        )


class Told(Case):
    def test_turns_of_least_words_and_of_others(self):
        least = [(word, len(order)) for order in orders_up_to(4) for word in least_words(order)]
        for word, many in least + [(word, 3) for word in NOT_LEAST] + [(LONG, 9), ([3, 1, 1, 3, 1, 3], 5), ([], 1)]:
            found = all_turns(word)
            self.tells(found, turns_of, word=word, many=many)
            for step in found:
                self.tells(done(word, step), turn, word=word, many=many, value=step)
                behind = turn(word, many, step)
                self.assertEqual(order_by(behind, many), order_by(word, many))
                self.same(turn(behind, many, step), list(word))

    def test_lead_of_all_least_words_of_four_things(self):
        for order in orders_up_to(4):
            words = least_words(order)
            for word in words:
                for other in words:
                    self.leads(word, other, len(order))

    def test_lead_of_nine_things(self):
        falling = list(range(9, 0, -1))
        rising_runs = [letter for top in range(8, 0, -1) for letter in range(9 - top, 9)]
        first = [letter for top in range(1, 9) for letter in range(top, 0, -1)]
        last = [9 - letter for letter in first]
        words = [a_word(falling), first, last, first[::-1], last[::-1]]
        words = [word for word in words + [rising_runs] if order_by(word, 9) == tuple(falling)]
        self.assertEqual(len(words), 5)
        for word in words:
            for other in words:
                self.leads(word, other, 9)

    def test_lead_of_whichever_words(self):
        dice = random.Random(5)
        for many in range(5, 10):
            for _ in range(12):
                order = dice.sample(range(1, many + 1), many)
                self.leads(some_word(order, dice), some_word(order, dice), many)

    def leads(self, word, other, many):
        """A list of turns leads the word into the other one, and is not too long to be told."""
        given = (tuple(word), list(other), many)
        found = lead(*given)
        self.assertIs(found.__class__, list)
        self.assertLessEqual(len(found), 1000)
        letters = list(word)
        for step in found:
            self.assertEqual(shape(step), (tuple, str, int))
            letters = done(letters, step)
        self.assertEqual(letters, list(other))
        self.assertIs(is_lead(*given, found), True)
        self.same(lead(word=list(word), other=tuple(other), many=many), found)
        self.assertIsNot(lead(*given), found)
        self.same(given, (tuple(word), list(other), many))

    def test_is_lead(self):
        right = [[("round", 0)], (("round", 0),), [("round", 0)] * 3]
        wrong = [value for value in ANYTHING] + [
            [("round", 0)] * 2, [["round", 0]], [("round", False)], [("round", 1)], [("past", 0)], [("round", 0), ("past", 0)],
            [("round",)], [("round", 0, 0)], [(0, "round")], ("round", 0), {("round", 0): 1}, [("round", "0")], [("round", -3)],
            [("round", None)], [("Round", 0)], [(None, 0)], [(("round", 0),)], [("round", 0), None], "round 0", [("round", [0])],
            [("round", 10 ** 29)],
        ]
        self.asks(right, wrong, is_lead, word=[1, 2, 1], other=[2, 1, 2], many=3)
        self.asks(right, wrong, is_lead, word=(2, 1, 2), other=(1, 2, 1), many=3)
        same = [[], (), [("round", 0)] * 2]
        self.asks(same, [("round", 0), [("round", 0)], None, False, {}, ""], is_lead, word=[1, 2, 1], other=(1, 2, 1), many=3)
        right = [[("past", 0)], [("past", 0)] * 3]
        wrong = [[("past", True)], [("past", False)], [("past", 1)], [("round", 0)], [("past", 0)] * 2, []]
        self.asks(right, wrong, is_lead, word=[1, 3], other=[3, 1], many=4)
        self.asks([[]], [[("past", 0)], None], is_lead, word=[], other=(), many=1)

    def test_a_lead_that_is_spoilt(self):
        word, other = [1, 2, 3, 1, 2, 1], [3, 2, 3, 1, 2, 3]
        found = lead(word, other, 4)
        for at, step in enumerate(found):
            for spoilt in (found[:at] + found[at + 1:], found[:at] + [step] + found[at:], found[:at] + [list(step)] + found[at + 1:]):
                self.assertIs(is_lead(word, other, 4, spoilt), False)


def shape(step):
    """The kinds of a turn and of its parts."""
    return (step.__class__, *[part.__class__ for part in step])


class Wrong(Case):
    def test_turns_of(self):
        self.wrong(turns_of, {"word": [1, 2, 1], "many": 3}, [MANY, ("word", InvalidWord, NO_WORDS)])

    def test_turn(self):
        no_turns = ANYTHING + [
            ["round", 0], ("past", 0), ("past", 1), ("round", 1), ("round", False), ("round", -3), ("round", 0, 0), ("round",),
            ("round", "0"), ("round", None), (0, "round"), [("round", 0)], ("ROUND", 0), (None, 0), ("round", 3), ("past", 2),
            ("round", (0,)), ("round", 10 ** 29), "round", {"round": 0, "past": 1}, (("round", 0), 0), ([], 0), ("", 0),
        ]
        rules = [MANY, ("word", InvalidWord, NO_WORDS), ("value", InvalidTurn, no_turns)]
        self.wrong(turn, {"word": [1, 2, 1], "many": 3, "value": ("round", 0)}, rules)
        self.fails(InvalidTurn, {"value": ("past", True)}, turn, [2, 1, 3], 4, ("past", True))
        self.fails(InvalidTurn, {"value": ("past", -2)}, turn, [1, 3], 4, ("past", -2))
        self.fails(InvalidTurn, {"value": ("past", 0)}, turn, [1, 1], 4, ("past", 0))
        self.fails(InvalidTurn, {"value": ("round", 0)}, turn, [1, 3, 1], 4, ("round", 0))
        self.fails(InvalidTurn, {"value": ("round", 0)}, turn, [1, 1, 1], 4, ("round", 0))
        self.fails(InvalidTurn, {"value": ("round", 0)}, turn, [1, 2, 3], 4, ("round", 0))

    def test_lead_and_is_lead(self):
        rules = [MANY, ("word", InvalidWord, NO_WORDS + NOT_LEAST), ("other", InvalidWord, NO_WORDS + NOT_LEAST)]
        self.wrong(lead, {"word": [1, 2], "other": (1, 2), "many": 3}, rules)
        self.wrong(is_lead, {"word": [1, 2], "other": (1, 2), "many": 3, "value": []}, rules)
        self.wrong(lead, {"word": [1, 2], "other": (2, 1), "many": 3}, rules)
        for word, other in (([1, 2], [2, 1]), ([], (1,)), ((1, 2, 1), [1, 2])):
            self.fails(UnlikeOrders, {}, lead, word, other, 3)
            self.fails(UnlikeOrders, {}, is_lead, word, other, 3, [])
            self.fails(UnlikeOrders, {}, is_lead, word=word, other=other, many=3, value=None)
