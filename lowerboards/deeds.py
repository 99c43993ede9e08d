"""Deeds: what each of them makes of a shelf."""

from lowerboards.commands import DEEDS
from lowerboards.errors import InvalidPosition, InvalidWord
from lowerboards.orders import beside, exchanged, one_behind, turned, undone
from lowerboards.shelves import values_of, with_claim, with_kept, without_label
from lowerboards.standing import put_in, taken_out
from lowerboards.turns import turn
from lowerboards.words import is_word, word_order


def order_kept(order):
    """An order, as it is kept."""
    return ("order", tuple(order))


def word_kept(letters, many):
    """A word, as it is kept."""
    if not is_word(letters, many):
        raise InvalidWord(letters)
    return ("word", (tuple(letters), many))


def kept_by_order(things):
    """What `order` keeps."""
    return order_kept(things)


def kept_by_word(many, letters):
    """What `word` keeps."""
    return word_kept(letters, many)


def kept_by_copy(thing):
    """What `copy` keeps."""
    return thing


def kept_by_undone(one):
    """What `undone` keeps."""
    return order_kept(undone(one))


def kept_by_turned(one):
    """What `turned` keeps."""
    return order_kept(turned(one))


def kept_by_beside(one, other):
    """What `beside` keeps."""
    return order_kept(beside(one, other))


def kept_by_behind(one, other):
    """What `behind` keeps."""
    return order_kept(one_behind(one, other))


def kept_by_made(one):
    """What `made` keeps."""
    letters, many = one
    return order_kept(word_order(letters, many))


def kept_by_swap(one, first, second):
    """What `swap` keeps."""
    return order_kept(exchanged(one, first, second))


def kept_by_put(one, place, thing):
    """What `put` keeps."""
    return order_kept(put_in(one, place, thing))


def kept_by_take(one, place):
    """What `take` keeps."""
    return order_kept(taken_out(one, place))


def kept_by_add(one, letter):
    """What `add` keeps."""
    letters, many = one
    return word_kept([*letters, letter], many)


def kept_by_strike(one, position):
    """What `strike` keeps."""
    letters, many = one
    if position >= len(letters):
        raise InvalidPosition(position)
    return word_kept(letters[:position] + letters[position + 1:], many)


def kept_by_turn(one, kind, position):
    """What `turn` keeps."""
    letters, many = one
    return word_kept(turn(letters, many, (kind, position)), many)


MAKERS = {
    "order": kept_by_order,
    "word": kept_by_word,
    "copy": kept_by_copy,
    "undone": kept_by_undone,
    "turned": kept_by_turned,
    "beside": kept_by_beside,
    "behind": kept_by_behind,
    "made": kept_by_made,
    "swap": kept_by_swap,
    "put": kept_by_put,
    "take": kept_by_take,
    "add": kept_by_add,
    "strike": kept_by_strike,
    "turn": kept_by_turn,
}


def behind_deed(shelf, words):
    """The shelf behind the deed of these words."""
    if words[0] == "claim":
        return with_claim(shelf, words[1], words[2:])
    if words[0] == "drop":
        return with_kept(shelf, words[1], None)
    if words[0] == "forget":
        return without_label(shelf, words[1])
    make = MAKERS[words[0]]
    values = values_of(shelf.kept, DEEDS[words[0]], words[1:])
    return with_kept(shelf, words[1], make(*values))
