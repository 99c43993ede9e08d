"""Answers: what is told of a shelf by the commands that change nothing."""

from lowerboards.boards import board_of
from lowerboards.commands import QUESTIONS
from lowerboards.corners import over
from lowerboards.four import first_way, is_even, is_free
from lowerboards.layings import how_many
from lowerboards.multipliers import multipliers
from lowerboards.orders import code, falls, level
from lowerboards.shelves import told_states, values_of
from lowerboards.signings import how_many_signings
from lowerboards.words import is_least


def joined(words):
    """Words or numbers with blanks between them; `-` for none of them."""
    return " ".join([str(word) for word in words]) if words else "-"


def figures(numbers):
    """Numbers as figures; `-` for none of them."""
    return "".join([str(number) for number in numbers]) if numbers else "-"


def yes_or_no(holds):
    """What is told of what holds or does not."""
    return "yes" if holds else "no"


def shown_told(thing):
    """The answer to `shown`."""
    kind, value = thing
    if kind == "order":
        return "order " + figures(value)
    return f"word {value[1]} {figures(value[0])}"


def level_told(one):
    """The answer to `level`."""
    return str(level(one))


def code_told(one):
    """The answer to `code`."""
    return joined(code(one))


def falls_told(one):
    """The answer to `falls`."""
    return joined(falls(one))


def layings_told(one):
    """The answer to `layings`."""
    return str(how_many(board_of(one)))


def signings_told(one):
    """The answer to `signings`."""
    return str(how_many_signings(one))


def board_told(one):
    """The answer to `board`."""
    return joined([f"{low}-{high}" for low, high in board_of(one)])


def free_told(one):
    """The answer to `free`."""
    return yes_or_no(is_free(one))


def even_told(one):
    """The answer to `even`."""
    return yes_or_no(is_even(one))


def least_told(one):
    """The answer to `least`."""
    letters, many = one
    return yes_or_no(is_least(letters, many))


def way_told(one):
    """The answer to `way`."""
    found = first_way(one)
    if found is None:
        return "none"
    way, places = found
    return joined([figures(way), *places])


def corner_told(one, other):
    """The answer to `corner`."""
    found = over(one, other)
    return "none" if found is None else joined(found)


def multipliers_told(one):
    """The answer to `multipliers`."""
    found = multipliers(one)
    return "none" if found is None else joined(found)


TELLERS = {
    "shown": shown_told,
    "level": level_told,
    "code": code_told,
    "falls": falls_told,
    "layings": layings_told,
    "signings": signings_told,
    "board": board_told,
    "free": free_told,
    "even": even_told,
    "least": least_told,
    "way": way_told,
    "corner": corner_told,
    "multipliers": multipliers_told,
}


def answer_to(shelf, words):
    """The answer to the question of these words, which is neither `undo` nor `redo`."""
    if words[0] == "state":
        return shelf.states[words[1]]
    if words[0] == "states":
        return told_states(shelf, list(shelf.noted))
    if words[0] == "claimed":
        return joined(shelf.noted[words[1]])
    if words[0] == "names":
        return joined(sorted(shelf.kept))
    tell = TELLERS[words[0]]
    values = values_of(shelf.kept, QUESTIONS[words[0]], words[1:])
    return tell(*values)
