"""Shelves: what a desk keeps under names, and the claims that it notes under labels, with their states.

A shelf never changes: what changes it makes another one. What is kept is a tuple ("order", the order), or ("word",
(the tuple of the word's letters, the number of things)). What is noted is the tuple of a claim's words.
"""

from lowerboards.claims import is_claim, is_true
from lowerboards.commands import CLAIMS, figures_of
from lowerboards.errors import (
    InvalidClaim, LabelTaken, NameTaken, TooMany, UnknownLabel, UnknownName, WrongKind,
)

KEPT_ROLES = ("order", "word", "thing")
MOST_NAMES = 8
MOST_LABELS = 12


class Shelf:
    """What is kept, what is noted, and the states of what is noted."""

    def __init__(self, kept, noted, states):
        self.kept = kept
        self.noted = noted
        self.states = states


def kept_value(thing):
    """What is kept, as it is told: an order, or a tuple of a new list of letters and the number of things."""
    kind, value = thing
    return value if kind == "order" else (list(value[0]), value[1])


def value_of(kept, role, word):
    """What a word of a command with this role stands for."""
    if role == "thing":
        return kept[word]
    if role in KEPT_ROLES:
        return kept_value(kept[word])
    if role in ("things", "letters", "signs"):
        return figures_of(word)
    return int(word) if role in ("many", "count") else word


def values_of(kept, roles, words):
    """The list of what the words with these roles stand for, but new names."""
    return [value_of(kept, role, word) for role, word in zip(roles, words) if role != "new"]


def is_of_role(kept, role, name):
    """Whether what is kept under the name, if anything is, is of the kind that the role wants."""
    return role == "thing" or kept[name][0] == role


def check_words(shelf, roles, words):
    """The errors of names and labels: NameTaken, LabelTaken, UnknownName, UnknownLabel, WrongKind."""
    told = list(zip(roles, words))
    names = [(role, word) for role, word in told if role in KEPT_ROLES]
    for role, word in told:
        if role == "new" and word in shelf.kept:
            raise NameTaken(word)
        if role == "unnoted" and word in shelf.noted:
            raise LabelTaken(word)
    for role, word in names:
        if word not in shelf.kept:
            raise UnknownName(word)
    for role, word in told:
        if role == "label" and word not in shelf.noted:
            raise UnknownLabel(word)
    for role, word in names:
        if not is_of_role(shelf.kept, role, word):
            raise WrongKind(word)


def claim_told(kept, words):
    """The tuple of the claim of these words, of what is kept under its names; it may be no claim."""
    word, *names = words
    values = values_of(kept, CLAIMS[word], names)
    if word in ("named", "unnamed"):
        (letters, many), order = values
        return (word, letters, many, order)
    if word in ("same", "other"):
        (letters, many), (others, size) = values
        return (word, letters, others, many if many == size else None)
    return (word, *values)


def names_in(words):
    """The list of the names of kept things in a claim's words."""
    return [word for role, word in zip(CLAIMS[words[0]], words[1:]) if role in KEPT_ROLES]


def claim_now(kept, words):
    """The claim of these words, of what is kept now; None while it is gone."""
    for role, word in zip(CLAIMS[words[0]], words[1:]):
        if role in KEPT_ROLES and (word not in kept or not is_of_role(kept, role, word)):
            return None
    claim = claim_told(kept, words)
    return claim if is_claim(claim) else None


def state_now(kept, words):
    """The state of the claim of these words."""
    claim = claim_now(kept, words)
    if claim is None:
        return "gone"
    return "true" if is_true(claim) else "false"


def with_kept(shelf, name, thing):
    """The shelf with a thing kept under the name, in the place of one that was kept; with none for None."""
    kept = {**shelf.kept, name: thing}
    if thing is None:
        del kept[name]
    if len(kept) > MOST_NAMES:
        raise TooMany("names", MOST_NAMES)
    states = {}
    for label, words in shelf.noted.items():
        # Only of claims with this name the state may be another one than ahead.
        states[label] = state_now(kept, words) if name in names_in(words) else shelf.states[label]
    return Shelf(kept, shelf.noted, states)


def with_claim(shelf, label, words):
    """The shelf with the claim of these words noted under the label."""
    claim = claim_told(shelf.kept, words)
    if not is_claim(claim):
        raise InvalidClaim(claim)
    if len(shelf.noted) == MOST_LABELS:
        raise TooMany("labels", MOST_LABELS)
    state = "true" if is_true(claim) else "false"
    return Shelf(shelf.kept, {**shelf.noted, label: tuple(words)}, {**shelf.states, label: state})


def without_label(shelf, label):
    """The shelf without what is noted under the label."""
    noted = {other: words for other, words in shelf.noted.items() if other != label}
    return Shelf(shelf.kept, noted, {other: shelf.states[other] for other in noted})


def told_states(shelf, labels):
    """The labels, sorted, with their states, as answers tell them."""
    if not labels:
        return "-"
    return ", ".join([label + " " + shelf.states[label] for label in sorted(labels)])


def told_changes(before, after):
    """The labels whose states are others than on the shelf before, with their states, as answers tell them."""
    changed = [label for label, state in after.states.items() if before.states.get(label) != state]
    return told_states(after, changed)
