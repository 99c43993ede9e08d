"""Turns: the changes of a word that leave its order, and how they lead from one least word to another."""

from lowerboards.basics import is_count
from lowerboards.checks import is_list
from lowerboards.errors import InvalidTurn, UnlikeOrders
from lowerboards.words import check_least_word, check_word, word_order

TURN_WORDS = ("past", "round")


def can_go_past(word, position):
    """Whether the letters at the position and behind it are unlike by two or more."""
    return position + 1 < len(word) and abs(word[position] - word[position + 1]) >= 2


def can_go_round(word, position):
    """Whether the three letters from the position on are x, y, x, unlike by one."""
    if position + 2 >= len(word) or word[position] != word[position + 2]:
        return False
    return abs(word[position] - word[position + 1]) == 1


def is_turn(word, value):
    """Whether any value is a turn of the word."""
    if not isinstance(value, tuple) or len(value) != 2 or not is_count(value[1]):
        return False
    if value[0] == "past":
        return can_go_past(word, value[1])
    return value[0] == "round" and can_go_round(word, value[1])


def behind_turn(word, value):
    """The word, a new list, behind a turn of it; nothing is looked at."""
    kind, position = value
    letters = list(word)
    if kind == "past":
        letters[position:position + 2] = [word[position + 1], word[position]]
    else:
        letters[position:position + 3] = [word[position + 1], word[position], word[position + 1]]
    return letters


def behind_turns(word, value):
    """The word, a new list, behind a list of turns; None if one of them is none when it comes."""
    letters = list(word)
    for step in value:
        if not is_turn(letters, step):
            return None
        letters = behind_turn(letters, step)
    return letters


def turns_of(word, many):
    """The sorted list of all turns of the word."""
    check_word(word, many)
    past = [("past", position) for position in range(len(word)) if can_go_past(word, position)]
    return past + [("round", position) for position in range(len(word)) if can_go_round(word, position)]


def turn(word, many, value):
    """The word, a list, behind a turn of it."""
    check_word(word, many)
    if not is_turn(word, value):
        raise InvalidTurn(value)
    return behind_turn(word, value)


def ahead_of_run(word, position, run):
    """The turns that bring the letter at the position, and what becomes of it, ahead of so many letters.

    These move one thing from its place to the left, step by step, and the letter does not move it: so
    it meets at most one of them that is unlike by one, and ahead of that one stands a letter like itself.
    """
    told = []
    letter = word[position]
    at = position
    while at > position - run:
        ahead = word[at - 1]
        if abs(letter - ahead) >= 2:
            told.append(("past", at - 1))
            at -= 1
        else:
            told.append(("round", at - 2))
            letter = ahead
            at -= 2
    return told


def settling(word, many):
    """The turns that lead a least word into the one that all least words of its order come to.

    In that one the letters that move the greatest thing stand last, ahead of them those that move the
    next one, and so on. For nine things that takes 462 turns at most, so two such lists stay below 1,000.
    """
    told = []
    letters = list(word)
    end = len(letters)
    for thing in range(many, 1, -1):
        run = 0
        for position in range(end):
            if letters[position] == thing - 1 - run:
                run += 1
            else:
                steps = ahead_of_run(letters, position, run)
                letters = behind_turns(letters, steps)
                told.extend(steps)
        end -= run
    return told


def check_lead(word, other, many):
    """InvalidMany, then InvalidWord of one that is no least word, UnlikeOrders unless they have one order."""
    check_least_word(word, many)
    check_least_word(other, many)
    if word_order(word, many) != word_order(other, many):
        raise UnlikeOrders()


def lead(word, other, many):
    """A list of turns that lead the word into the other one: each turn, done again, takes itself back."""
    check_lead(word, other, many)
    return settling(word, many) + settling(other, many)[::-1]


def is_lead(word, other, many, value):
    """Whether any value is a list of turns that lead the word into the other one."""
    check_lead(word, other, many)
    return is_list(value) and behind_turns(word, value) == list(other)
