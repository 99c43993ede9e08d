"""Commands: which strings are commands of a desk, by their words alone, and which of these are deeds."""

from lowerboards.basics import MOST_THINGS, is_order
from lowerboards.checks import is_numeral
from lowerboards.turns import TURN_WORDS
from lowerboards.webs import MOST_TIES
from lowerboards.words import MOST_LETTERS

MOST_NAME = 8
MOST_FIGURES = 6
# The roles of the words behind the first one of a command, by which they are looked up. Of the names: nothing is
# kept under a "new" one; an order, a word, either of them is kept under "order", "word", "thing"; nothing is noted
# under "unnoted", something under "label".
NAME_ROLES = ("new", "order", "word", "thing", "unnoted", "label")
DEEDS = {
    "order": ("new", "things"),
    "word": ("new", "many", "letters"),
    "copy": ("new", "thing"),
    "undone": ("new", "order"),
    "turned": ("new", "order"),
    "beside": ("new", "order", "order"),
    "behind": ("new", "order", "order"),
    "made": ("new", "word"),
    "swap": ("order", "count", "count"),
    "put": ("order", "count", "count"),
    "take": ("order", "count"),
    "add": ("word", "count"),
    "strike": ("word", "count"),
    "turn": ("word", "turn", "count"),
    "drop": ("thing",),
    "forget": ("label",),
}
QUESTIONS = {
    "undo": (),
    "redo": (),
    "state": ("label",),
    "states": (),
    "claimed": ("label",),
    "names": (),
    "shown": ("thing",),
    "level": ("order",),
    "code": ("order",),
    "falls": ("order",),
    "layings": ("order",),
    "signings": ("order",),
    "board": ("order",),
    "free": ("order",),
    "even": ("order",),
    "least": ("word",),
    "way": ("order",),
    "corner": ("order", "order"),
    "multipliers": ("order",),
}
CLAIMS = {
    "below": ("order", "order"),
    "over": ("order", "order"),
    "board": ("order",),
    "beyond": ("order",),
    "alike": ("order",),
    "unlike": ("order",),
    "ringless": ("order", "signs"),
    "round": ("order", "signs"),
    "named": ("word", "order"),
    "unnamed": ("word", "order"),
    "same": ("word", "word"),
    "other": ("word", "word"),
}


def are_signs_between(word, low, high):
    """Whether each sign of a string stands, in their sequence, from the one to the other, both included."""
    return all(low <= sign <= high for sign in word)


def is_name(value):
    """Whether any value is a name."""
    if not isinstance(value, str) or not 1 <= len(value) <= MOST_NAME:
        return False
    return "a" <= value[0] <= "z" and all("a" <= sign <= "z" or "0" <= sign <= "9" for sign in value)


def figures_of(word):
    """The list of the numbers that a word of figures tells; `-` tells none."""
    return [] if word == "-" else [int(sign) for sign in word]


def are_figures(word, low, high, most):
    """Whether the word is `-`, or one to so many figures from low to high."""
    return word == "-" or (1 <= len(word) <= most and are_signs_between(word, str(low), str(high)))


def are_things(word):
    """Whether the word is the things of an order as figures."""
    return are_figures(word, 1, MOST_THINGS, MOST_THINGS) and is_order(figures_of(word))


def is_many(word):
    """Whether the word is a figure for a number of things."""
    return len(word) == 1 and are_signs_between(word, "1", str(MOST_THINGS))


def fits_role(role, word, ahead):
    """Whether a word, behind the one ahead, which is of its own role, is of this one by its signs alone."""
    if role in NAME_ROLES:
        return is_name(word)
    if role == "things":
        return are_things(word)
    if role == "many":
        return is_many(word)
    if role == "letters":
        return are_figures(word, 1, int(ahead) - 1, MOST_LETTERS)
    if role == "signs":
        return are_figures(word, 0, 1, MOST_TIES)
    if role == "turn":
        return word in TURN_WORDS
    if role == "claim":
        return word in CLAIMS
    return is_numeral(word, MOST_FIGURES)


def roles_of(words):
    """The roles of the words behind the first one of a command, a tuple; None if the first ones begin none."""
    if words[0] == "claim":
        if len(words) < 3 or words[2] not in CLAIMS:
            return None
        return ("unnoted", "claim", *CLAIMS[words[2]])
    return DEEDS.get(words[0], QUESTIONS.get(words[0]))


def are_words_of_command(words):
    """Whether the words are those of a command."""
    roles = roles_of(words)
    if roles is None or len(words) != len(roles) + 1:
        return False
    return all(fits_role(role, word, ahead) for role, word, ahead in zip(roles, words[1:], words))


def is_command(value):
    """Whether any value is a string that is a command by its words alone."""
    return isinstance(value, str) and are_words_of_command(value.split(" "))


def is_deed_word(word):
    """Whether a command that begins with this word is a deed."""
    return word == "claim" or word in DEEDS


def is_deed(value):
    """Whether any value is a string that is a deed by its words alone."""
    return is_command(value) and is_deed_word(value.split(" ")[0])
