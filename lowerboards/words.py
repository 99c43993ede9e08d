"""Words: rows of letters, each of which exchanges the things at two neighbouring places."""

from lowerboards.basics import MOST_THINGS
from lowerboards.checks import are_within_bounds, check_many, check_order, is_rising_list, is_within_bounds
from lowerboards.errors import InvalidWord, TooMany
from lowerboards.orders import falls, level, swapped, undone

MOST_LETTERS = 40
MOST_WORDS = 200


def is_word(word, many):
    """Whether any two values are a word and the number of things, up to nine, of which it is one."""
    if not is_within_bounds(many, 1, MOST_THINGS):
        return False
    return are_within_bounds(word, 1, many - 1) and len(word) <= MOST_LETTERS


def check_word(word, many):
    """InvalidMany, then InvalidWord unless a word of so many things."""
    check_many(many)
    if not is_word(word, many):
        raise InvalidWord(word)


def check_least_word(word, many):
    """InvalidMany, then InvalidWord unless a least word of so many things."""
    if not is_least(word, many):
        raise InvalidWord(word)


def word_order(word, many):
    """The sorted order, exchanged by letter after letter."""
    check_word(word, many)
    things = tuple(range(1, many + 1))
    for letter in word:
        things = swapped(things, letter - 1, letter)
    return things


def is_least(word, many):
    """Whether the word has just as many letters as its order's level."""
    return level(word_order(word, many)) == len(word)


def a_word(order):
    """A least word of the order: its falls put right, one behind another, backwards."""
    check_order(order)
    things = tuple(order)
    letters = []
    fallen = falls(things)
    while fallen:
        letters.append(fallen[0] + 1)
        things = swapped(things, fallen[0], fallen[0] + 1)
        fallen = falls(things)
    return letters[::-1]


def least_words(order):
    """The sorted list of all least words of the order."""
    # The first letters of an order's words are the last ones of its undone's: they come of that one's falls.
    begun = [([], undone(order))]
    found = []
    while begun:
        word, rest = begun.pop()
        fallen = falls(rest)
        if not fallen:
            found.append(word)
        # No beginning is in vain: each comes to a word, so this stops soon.
        if len(found) > MOST_WORDS:
            raise TooMany("words", MOST_WORDS)
        for place in fallen[::-1]:
            begun.append((word + [place + 1], swapped(rest, place, place + 1)))
    return found


def things_exchanged(word, many):
    """For each letter the tuple of the two things that it exchanges, the lesser one first."""
    things = tuple(range(1, many + 1))
    told = []
    for letter in word:
        two = things[letter - 1:letter + 1]
        told.append((min(two), max(two)))
        things = swapped(things, letter - 1, letter)
    return told


def without_letters(word, positions):
    """The word, a list, without the letters at the positions."""
    return [letter for position, letter in enumerate(word) if position not in positions]


def spare(word, many):
    """The positions of the first two spare letters; None for a least word."""
    check_word(word, many)
    first_at = {}
    for position, things in enumerate(things_exchanged(word, many)):
        if things in first_at:
            return (first_at[things], position)
        first_at[things] = position
    return None


def lessened(word, many):
    """A rising list of positions that lessen the word."""
    check_word(word, many)
    left = list(range(len(word)))
    two = spare(word, many)
    while two is not None:
        left = [position for at, position in enumerate(left) if at not in two]
        two = spare([word[position] for position in left], many)
    return [position for position in range(len(word)) if position not in left]


def is_lessened(word, many, value):
    """Whether any value is a rising list of positions that lessen the word."""
    check_word(word, many)
    if not is_rising_list(value, 0, len(word) - 1):
        return False
    left = without_letters(word, value)
    return is_least(left, many) and word_order(left, many) == word_order(word, many)
