"""[95] to [98]: a desk against another one, written plainly by the words of the document, at drawn commands."""

import copy
import random

from lowerboards import errors
from lowerboards.boards import board_of
from lowerboards.claims import contrary, is_claim, is_paper_of, is_true, paper_of
from lowerboards.commands import is_deed
from lowerboards.corners import over
from lowerboards.desk import Desk, Trial
from lowerboards.four import first_way, is_even, is_free
from lowerboards.layings import how_many
from lowerboards.multipliers import multipliers
from lowerboards.orders import beside, code, exchanged, falls, level, one_behind, turned, undone
from lowerboards.signings import how_many_signings
from lowerboards.standing import put_in, taken_out
from lowerboards.turns import turn
from lowerboards.words import is_least, is_word, word_order
from tests.helper import Case, drawn_order, shown

NAMES = ["f", "g", "h", "w", "v", "below", "n1", "n2", "n3", "n4"]
LABELS = ["x", "y", "f", "state"] + [f"l{at}" for at in range(10)]
OWN = (errors.ShelfError, errors.MissingError, errors.StateError, errors.LimitError)
ONE_ORDER = ["board", "beyond", "alike", "unlike"]
TWO_ORDERS = ["below", "over"]
NAMED, TWO_WORDS, SIGNED = ["named", "unnamed"], ["same", "other"], ["ringless", "round"]


def row(numbers):
    """Numbers as answers tell them."""
    return " ".join(map(str, numbers)) or "-"


def digits(numbers):
    """Numbers as figures."""
    return "".join(map(str, numbers)) or "-"


def numbers_in(word):
    """The numbers that figures tell."""
    return [] if word == "-" else [int(figure) for figure in word]


class Plain:
    """Another desk: all in dicts and lists, all copied at each deed, all states told anew each time."""

    def __init__(self):
        self.things, self.claims, self.papers, self.done, self.undone = {}, {}, {}, [], []

    def order(self, name):
        """The order under a name, looked at last of all."""
        if isinstance(self.things[name], list):
            raise errors.WrongKind(name)
        return self.things[name]

    def word(self, name):
        """The word under a name."""
        if not isinstance(self.things[name], list):
            raise errors.WrongKind(name)
        return self.things[name]

    def known(self, *names):
        """UnknownName unless something is kept under each."""
        for name in names:
            if name not in self.things:
                raise errors.UnknownName(name)

    def tuple_of(self, words):
        """The tuple of a claim's words; errors if names are wrong."""
        word, one, *others = words
        self.known(*([one] if word in ONE_ORDER + SIGNED else [one, *others]))
        if word in ONE_ORDER:
            return (word, self.order(one))
        if word in SIGNED:
            return (word, self.order(one), numbers_in(others[0]))
        if word in TWO_ORDERS:
            return (word, self.order(one), self.order(others[0]))
        letters, many = self.word(one)
        if word in NAMED:
            return (word, list(letters), many, self.order(others[0]))
        more, size = self.word(others[0])
        return (word, list(letters), list(more), many if many == size else None)

    def claim(self, label):
        """The claim of a label; None while it is gone."""
        try:
            told = self.tuple_of(self.claims[label])
        except (errors.UnknownName, errors.WrongKind):
            return None
        return told if is_claim(told) else None

    def states(self):
        """All states by label."""
        told = {}
        for label in self.claims:
            claim = self.claim(label)
            told[label] = "gone" if claim is None else str(is_true(claim)).lower()
        return told

    def do(self, command):
        """The answer."""
        word, *rest = command.split(" ")
        if word == "undo":
            if not self.done:
                raise errors.NothingToUndo()
            line, before = self.done.pop()
            self.undone.append((line, (self.things, self.claims)))
            self.things, self.claims = before
            return line
        if word == "redo":
            if not self.undone:
                raise errors.NothingToRedo()
            line, after = self.undone.pop()
            self.done.append((line, (self.things, self.claims)))
            self.things, self.claims = after
            return line
        if not is_deed(command):
            return self.ask(word, rest)
        before, things, claims = self.states(), self.things, self.claims
        self.things, self.claims = copy.deepcopy((things, claims))
        try:
            self.deed(word, rest)
            if len(self.things) > 8:
                raise errors.TooMany("names", 8)
            if len(self.claims) > 12:
                raise errors.TooMany("labels", 12)
            if len(self.done) == 300:
                raise errors.TooMany("deeds", 300)
        except OWN:
            self.things, self.claims = things, claims
            raise
        self.done.append((command, (things, claims)))
        self.undone = []
        changed = {label: state for label, state in self.states().items() if before.get(label) != state}
        return ", ".join(f"{label} {state}" for label, state in sorted(changed.items())) or "-"

    def deed(self, word, rest):
        """Does a deed."""
        if word == "claim":
            if rest[0] in self.claims:
                raise errors.LabelTaken(rest[0])
            told = self.tuple_of(rest[1:])
            if not is_claim(told):
                raise errors.InvalidClaim(told)
            self.claims[rest[0]] = rest[1:]
        elif word == "forget":
            if rest[0] not in self.claims:
                raise errors.UnknownLabel(rest[0])
            del self.claims[rest[0]]
        elif word == "drop":
            self.known(rest[0])
            del self.things[rest[0]]
        elif word in ("order", "word", "copy", "undone", "turned", "beside", "behind", "made"):
            if rest[0] in self.things:
                raise errors.NameTaken(rest[0])
            self.things[rest[0]] = self.made(word, rest[1:])
        elif word in ("swap", "put", "take"):
            self.known(rest[0])
            function = {"swap": exchanged, "put": put_in, "take": taken_out}[word]
            self.things[rest[0]] = function(self.order(rest[0]), *map(int, rest[1:]))
        else:
            self.known(rest[0])
            self.change(word, rest, self.word(rest[0]))

    def made(self, word, rest):
        """What is kept under a new name."""
        if word == "order":
            return tuple(map(int, rest[0]))
        if word == "word":
            return [numbers_in(rest[1]), int(rest[0])]
        self.known(*rest)
        if word == "copy":
            return copy.deepcopy(self.things[rest[0]])
        if word == "made":
            return word_order(*self.word(rest[0]))
        given = [self.order(name) for name in rest]
        return {"undone": undone, "turned": turned, "beside": beside, "behind": one_behind}[word](*given)

    def change(self, word, rest, kept):
        """Changes a word."""
        letters, many = kept
        if word == "add":
            letters = letters + [int(rest[1])]
        elif word == "strike":
            if int(rest[1]) >= len(letters):
                raise errors.InvalidPosition(int(rest[1]))
            del letters[int(rest[1])]
        else:
            letters = turn(letters, many, (rest[1], int(rest[2])))
        if not is_word(letters, many):
            raise errors.InvalidWord(letters)
        self.things[rest[0]] = [letters, many]

    def ask(self, word, rest):
        """The answer to a question."""
        if word in ("state", "claimed"):
            if rest[0] not in self.claims:
                raise errors.UnknownLabel(rest[0])
            return self.states()[rest[0]] if word == "state" else " ".join(self.claims[rest[0]])
        if word == "states":
            return ", ".join(f"{label} {state}" for label, state in sorted(self.states().items())) or "-"
        if word == "names":
            return " ".join(sorted(self.things)) or "-"
        self.known(*rest)
        if word == "shown":
            kept = self.things[rest[0]]
            return f"word {kept[1]} {digits(kept[0])}" if isinstance(kept, list) else f"order {digits(kept)}"
        if word == "least":
            return "yes" if is_least(*self.word(rest[0])) else "no"
        return self.asked_of_orders(word, [self.order(name) for name in rest])

    def asked_of_orders(self, word, orders):
        """The answer to a question about orders."""
        one = orders[0]
        if word == "corner":
            return row(over(*orders) or ["none"])
        if word == "way":
            found = first_way(one)
            return "none" if found is None else f"{digits(found[0])} {row(found[1])}"
        if word == "multipliers":
            found = multipliers(one)
            return "none" if found is None else row(found)
        if word in ("free", "even"):
            return "yes" if (is_free if word == "free" else is_even)(one) else "no"
        told = {
            "level": lambda: [level(one)], "code": lambda: code(one), "falls": lambda: falls(one), "layings": lambda: [how_many(board_of(one))],
            "signings": lambda: [how_many_signings(one)], "board": lambda: [f"{low}-{high}" for low, high in board_of(one)],
        }
        return row(told[word]())

    def attach(self, label, paper):
        """Keeps a paper."""
        if label not in self.claims:
            raise errors.UnknownLabel(label)
        claim = self.claim(label)
        for one in [] if claim is None else [claim, contrary(claim)]:
            if is_paper_of(one, paper):
                self.papers[label] = (list(self.claims[label]), one[0], copy.deepcopy(paper))
                return
        raise errors.InvalidPaper(paper)

    def fits(self, label):
        """Whether a paper is kept that fits."""
        if label not in self.claims:
            raise errors.UnknownLabel(label)
        words, kept_for, paper = self.papers.get(label, (None, None, None))
        claim = self.claim(label)
        if words != self.claims[label] or claim is None:
            return False
        return is_paper_of(claim if kept_for == claim[0] else contrary(claim), paper)


def drawn_letters(dice, many):
    """A few letters as figures."""
    return digits([dice.randrange(1, many) for _ in range(dice.randrange(5))]) if many > 1 else "-"


def drawn_claim(dice, one, other):
    """The words of a claim."""
    word = dice.choice(TWO_ORDERS * 2 + ONE_ORDER + NAMED + TWO_WORDS + SIGNED)
    if word in ONE_ORDER:
        return f"{word} {one}"
    if word in SIGNED:
        return f"{word} {one} {digits(dice.choices((0, 1), k=dice.randrange(5)))}"
    return f"{word} {one} {other}"


def drawn_of(dice, names, likely):
    """One of the names, mostly one of the likely ones."""
    return dice.choice(sorted(likely) if likely and dice.randrange(6) else names)


def drawn_command(dice, plain):
    """A command, mostly one that can be done."""
    one, other = drawn_of(dice, NAMES, plain.things), drawn_of(dice, NAMES, plain.things)
    new = drawn_of(dice, NAMES, set(NAMES) - set(plain.things))
    label, at, more = dice.choice(LABELS), dice.randrange(5), dice.randrange(6)
    many = dice.choice([1, 2, 3, 3, 4, 4])
    return dice.choice([
        f"order {new} {digits(drawn_order(dice, dice.choice([1, 2, 3, 3, 4, 4, 4, 5, 9])))}", f"order {new} {digits(drawn_order(dice, 4))}",
        f"word {new} {many} {drawn_letters(dice, many)}",
        f"copy {new} {one}", f"{dice.choice(['undone', 'turned'])} {new} {one}", f"{dice.choice(['beside', 'behind'])} {new} {one} {other}",
        f"made {new} {one}", f"swap {one} {at} {more}",
        f"put {one} {at} {more}", f"take {one} {at}", f"add {one} {at}", f"strike {one} {at}", f"turn {one} {dice.choice(['past', 'round'])} {at}",
        f"drop {one}",
        f"claim {label} {drawn_claim(dice, one, other)}", f"claim {label} {drawn_claim(dice, one, other)}",
        f"claim {label} {drawn_claim(dice, one, other)}", f"forget {label}", "undo", "undo", "redo",
        f"state {label}", "states", f"claimed {label}", "names", f"corner {one} {other}", f"least {one}", f"shown {one}",
        f"{dice.choice(['level', 'code', 'falls', 'layings', 'signings', 'board', 'free', 'even', 'way', 'multipliers'])} {one}",
    ])


def outcome(function, *given):
    """What a call returns, or its error with its attributes."""
    try:
        return shown(function(*given))
    except OWN as error:
        return error.__class__.__name__ + shown(vars(error))


class Drawn(Case):
    def alike(self, desk, plain):
        """Both tell the same."""
        self.assertEqual((desk.names, desk.labels, len(desk)), (sorted(plain.things), sorted(plain.claims), len(plain.done)))
        self.assertEqual(desk.lines(), [line for line, _ in plain.done])
        for name in NAMES:
            self.assertIs(name in desk, name in plain.things)
            if name in desk:
                kept = plain.things[name]
                self.same(desk[name], tuple(kept) if isinstance(kept, list) else kept)
        for label in desk.labels:
            self.same(desk.claim_of(label), plain.claim(label))
            self.assertIs(desk.fits(label), plain.fits(label))
        self.same(desk.do("states"), plain.do("states"))

    def step(self, dice, desk, plain):
        """One call, the same of both; it tells its outcome."""
        if dice.randrange(8) == 0 and plain.claims:
            label = dice.choice(sorted(plain.claims))
            claim = plain.claim(label)
            paper = (2, 2) if claim is None else paper_of(claim) if is_true(claim) else paper_of(contrary(claim))
            paper = dice.choice([paper, paper, paper, [(0, 1)], (1, 2), None])
            told = outcome(desk.attach, label, paper)
            self.assertEqual(told, outcome(plain.attach, label, paper), (label, paper))
            return told
        command = drawn_command(dice, plain)
        told = outcome(desk.do, command)
        self.assertEqual(told, outcome(plain.do, command), command)
        return told

    def test_drawn_commands(self):
        found = []
        for seed in range(50):
            dice = random.Random(seed)
            desk, plain = Desk(), Plain()
            for at in range(220):
                found.append(self.step(dice, desk, plain))
                if at % 5 == 0:
                    self.alike(desk, plain)
            self.alike(desk, plain)
            self.alike(Desk.again(desk.lines()), self.without_papers(plain))
        errors_met = {told.split("{")[0] for told in found if "{" in told}
        self.assertLessEqual({"NameTaken", "UnknownName", "WrongKind", "InvalidClaim", "InvalidPaper", "NothingToRedo", "InvalidTurn"}, errors_met)
        self.assertGreater(sum("true" in told for told in found), 100)
        self.assertGreater(sum("gone" in told for told in found), 100)

    def without_papers(self, plain):
        """The same desk without papers, nothing taken back."""
        other = copy.deepcopy(plain)
        other.papers = {}
        return other

    def test_copies_and_trials(self):
        for seed in range(15):
            dice = random.Random(seed + 1000)
            desk, plain = Desk(), Plain()
            for _ in range(60):
                self.step(dice, desk, plain)
            other, other_plain = desk.copy(), copy.deepcopy(plain)
            for _ in range(20):
                self.step(dice, desk, plain)
                self.step(dice, other, other_plain)
            self.alike(desk, plain)
            self.alike(other, other_plain)
            held_plain = copy.deepcopy(plain)
            with Trial(desk) as held:
                for _ in range(20):
                    self.step(dice, held, held_plain)
                self.alike(held, held_plain)
            self.alike(desk, plain)
            for _ in range(20):
                self.step(dice, desk, plain)
            self.alike(desk, plain)

    def test_many_at_once(self):
        for seed in range(60):
            dice = random.Random(seed + 2000)
            desk, plain = Desk(), Plain()
            for _ in range(40):
                self.step(dice, desk, plain)
            commands = [drawn_command(dice, plain) for _ in range(dice.randrange(4))]
            trial = copy.deepcopy(plain)
            want, failed = [], None
            for at, command in enumerate(commands):
                try:
                    want.append(trial.do(command))
                except OWN:
                    failed = at
                    break
            for function in (desk.attempt, desk.do_all):
                told = outcome(function, *commands)
                self.assertEqual(told, shown(want) if failed is None else "CommandFailed" + shown({"position": failed}))
                self.alike(desk, trial if function == desk.do_all and failed is None else plain)
