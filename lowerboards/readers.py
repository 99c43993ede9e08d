"""Readers: which kind and which value have a written form, or which line of a string is the wrong one."""

from lowerboards.basics import MOST_THINGS, is_order
from lowerboards.checks import is_numeral
from lowerboards.errors import InvalidText
from lowerboards.texts import (
    KINDS, LINE_WORDS, MOST_LISTED_IN_TEXTS, is_corner_in_text, is_exchange_in_text, is_form, is_places_in_text,
    is_turn_in_text,
)

# No number of a written form is longer.
MOST_FIGURES = 2
BEYOND_WORDS = ("beyond", "way", "at", "laying")
# Kinds whose written form is one line.
LINE_KINDS = ("order", "word", "signing", "lot")


def parted(line):
    """The line's first word and the tuple of the numbers behind it; None if these are not all numbers."""
    first, *others = line.split(" ")
    if not all(is_numeral(word, MOST_FIGURES) for word in others):
        return None
    return (first, tuple([int(word) for word in others]))


def line_value(kind, numbers):
    """The value that a line of this kind and these numbers tells, whether it is one of the kind or not."""
    if kind == "order":
        return numbers
    if kind == "word":
        return (list(numbers[1:]), numbers[0] if numbers else None)
    return list(numbers)


def begins(row):
    """Whether a written form begins with this line, parted."""
    kind, numbers = row
    if kind in LINE_KINDS:
        return is_form(kind, line_value(kind, numbers))
    return kind in KINDS and not numbers


def board_goes_on(ahead, numbers):
    """Whether a place of these numbers can follow those ahead, tuples, on a board of some number of places."""
    if len(numbers) != 2:
        return False
    low, high = numbers
    # Whatever its high: the board can go on to nine places, each of which lets all from this low to 9.
    if not 1 <= low <= len(ahead) + 1 <= high <= MOST_THINGS:
        return False
    return not ahead or (ahead[-1][0] <= low and ahead[-1][1] <= high)


def beyond_goes_on(rows, row):
    """Whether the line can follow those ahead in a text of the kind "beyond"."""
    first, numbers = row
    if len(rows) == len(BEYOND_WORDS) or first != BEYOND_WORDS[len(rows)]:
        return False
    if first == "at":
        return is_places_in_text(numbers, len(rows[1][1]))
    return is_order(numbers)


def turns_go_on(rows, row):
    """Whether the line can follow those ahead in a text of the kind "turns"."""
    first, numbers = row
    if len(rows) > MOST_LISTED_IN_TEXTS or len(numbers) != 1:
        return False
    return is_turn_in_text((first, numbers[0]))


def goes_on(rows, row):
    """Whether a written form that begins with these lines, at least one, can go on with this one, all parted."""
    kind = rows[0][0]
    first, numbers = row
    if kind == "beyond":
        return beyond_goes_on(rows, row)
    if kind == "turns":
        return turns_go_on(rows, row)
    if kind not in LINE_WORDS or first != LINE_WORDS[kind]:
        return False
    ahead = [told for word, told in rows[1:]]
    if kind == "board":
        return board_goes_on(ahead, numbers)
    if kind == "exchanges":
        return len(ahead) < MOST_LISTED_IN_TEXTS and is_exchange_in_text(numbers)
    return is_corner_in_text(numbers) and (not ahead or ahead[-1][:2] < numbers[:2])


def is_whole(rows):
    """Whether lines, parted, with which a written form begins, are a whole one."""
    if not rows:
        return False
    kind = rows[0][0]
    if kind == "beyond":
        return len(rows) == len(BEYOND_WORDS)
    # The greatest high has to be the number of places.
    return kind != "board" or (len(rows) > 1 and rows[-1][1][1] == len(rows) - 1)


def value_of(rows):
    """The value that the lines of a written form, parted, tell."""
    kind, numbers = rows[0]
    if kind in LINE_KINDS:
        return line_value(kind, numbers)
    if kind == "beyond":
        return tuple([told for word, told in rows[1:]])
    if kind == "turns":
        return [(word, told[0]) for word, told in rows[1:]]
    return [told for word, told in rows[1:]]


def read(text):
    """The tuple of the kind and the value that has this written form."""
    if not isinstance(text, str):
        raise InvalidText(0)
    *lines, rest = text.split("\n")
    rows = []
    for at, line in enumerate(lines):
        row = parted(line)
        if row is None or not (goes_on(rows, row) if rows else begins(row)):
            raise InvalidText(at + 1)
        rows.append(row)
    # What stands behind the last line feed is no line; lines may lack, too.
    if rest != "" or not is_whole(rows):
        raise InvalidText(len(lines) + 1)
    return (rows[0][0], value_of(rows))
