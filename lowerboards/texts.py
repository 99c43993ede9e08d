"""Texts: the kinds of values that have a written form, and this form of each of them."""

from lowerboards.basics import is_order
from lowerboards.boards import is_board
from lowerboards.checks import are_within_bounds, is_list, is_pair, is_rising_list, is_tuple_of, is_within_bounds
from lowerboards.errors import InvalidForm, InvalidKind
from lowerboards.turns import TURN_WORDS
from lowerboards.webs import MOST_TIES
from lowerboards.words import is_word

KINDS = ("order", "word", "board", "signing", "lot", "exchanges", "turns", "corners", "beyond")
MOST_POSITION = 39
MOST_LISTED_IN_TEXTS = 100
MOST_PLACE = 8
MOST_IN_CORNERS = 9
# The word ahead of each tuple of numbers, where a kind has a line for each of its tuples.
LINE_WORDS = {"board": "place", "exchanges": "pair", "corners": "corner"}


def is_order_form(value):
    """Whether any value is of the kind "order"."""
    return is_order(value)


def is_word_form(value):
    """Whether any value is of the kind "word"."""
    return is_tuple_of(value, 2) and is_word(value[0], value[1])


def is_board_form(value):
    """Whether any value is of the kind "board"."""
    return is_board(value)


def is_signing_form(value):
    """Whether any value is of the kind "signing"."""
    return are_within_bounds(value, 0, 1) and len(value) <= MOST_TIES


def is_lot_form(value):
    """Whether any value is of the kind "lot"."""
    return is_rising_list(value, 0, MOST_POSITION)


def is_exchange_in_text(value):
    """Whether any value is one of the tuples of the kind "exchanges"."""
    return is_pair(value, 0, MOST_PLACE) and value[0] < value[1]


def is_exchanges_form(value):
    """Whether any value is of the kind "exchanges"."""
    if not is_list(value) or len(value) > MOST_LISTED_IN_TEXTS:
        return False
    return all(is_exchange_in_text(pair) for pair in value)


def is_turn_in_text(value):
    """Whether any value is one of the tuples of the kind "turns"."""
    return is_tuple_of(value, 2) and value[0] in TURN_WORDS and is_within_bounds(value[1], 0, MOST_POSITION)


def is_turns_form(value):
    """Whether any value is of the kind "turns"."""
    if not is_list(value) or len(value) > MOST_LISTED_IN_TEXTS:
        return False
    return all(is_turn_in_text(turn) for turn in value)


def is_corner_in_text(value):
    """Whether any value is one of the tuples of the kind "corners"."""
    if not is_tuple_of(value, 3) or not are_within_bounds(value, 0, MOST_IN_CORNERS):
        return False
    return value[0] >= 1 and value[1] >= 1


def is_corners_form(value):
    """Whether any value is of the kind "corners"."""
    if not is_list(value) or not all(is_corner_in_text(corner) for corner in value):
        return False
    return all(corner[:2] < following[:2] for corner, following in zip(value, value[1:]))


def is_places_in_text(value, many):
    """Whether any value is a rising list of so many unlike places, as the kind "beyond" has it."""
    return is_rising_list(value, 0, MOST_PLACE) and len(value) == many


def is_beyond_form(value):
    """Whether any value is of the kind "beyond"."""
    if not is_tuple_of(value, 3) or not is_order(value[0]) or not is_order(value[2]):
        return False
    return is_places_in_text(value[1], len(value[0]))


FORMS = {
    "order": is_order_form,
    "word": is_word_form,
    "board": is_board_form,
    "signing": is_signing_form,
    "lot": is_lot_form,
    "exchanges": is_exchanges_form,
    "turns": is_turns_form,
    "corners": is_corners_form,
    "beyond": is_beyond_form,
}


def kinds():
    """The list of the words of the kinds."""
    return list(KINDS)


def is_form(kind, value):
    """Whether any value is one of this kind."""
    if kind not in KINDS:
        raise InvalidKind(kind)
    is_one = FORMS[kind]
    return is_one(value)


def lines_of(kind, value):
    """The lines of the value's written form, each a list of words and numbers."""
    if kind == "word":
        return [[kind, value[1], *value[0]]]
    if kind == "beyond":
        return [[kind], ["way", *value[0]], ["at", *value[1]], ["laying", *value[2]]]
    if kind == "turns":
        return [[kind], *[list(turn) for turn in value]]
    if kind in LINE_WORDS:
        return [[kind], *[[LINE_WORDS[kind], *numbers] for numbers in value]]
    return [[kind, *value]]


def written(kind, value):
    """The written form of a value of this kind."""
    if not is_form(kind, value):
        raise InvalidForm(value)
    return "".join([" ".join([str(word) for word in line]) + "\n" for line in lines_of(kind, value)])
