"""A desk, which keeps orders and words under names and claims under labels, and trials of it."""

from lowerboards.answers import answer_to
from lowerboards.checks import is_list
from lowerboards.claims import contrary, is_paper_of
from lowerboards.commands import is_command, is_deed, is_deed_word, roles_of
from lowerboards.deeds import behind_deed
from lowerboards.errors import (
    CommandFailed, InvalidCommand, InvalidLines, InvalidPaper, LimitError, MissingError, NothingToRedo, NothingToUndo,
    ShelfError, StateError, TooMany, UnknownLabel, UnknownName,
)
from lowerboards.shelves import Shelf, check_words, claim_now, kept_value, told_changes

MOST_DEEDS = 300


class Moment:
    """All of a desk at one time; it never changes.

    done, taken_back: lists of tuples (line, the shelf ahead of the deed, the shelf behind it). papers: a dict of
    labels, each with a tuple (the claim's words, whether the paper is one of the claim, not of its contrary; it).
    """

    def __init__(self, shelf, done, taken_back, papers):
        self.shelf = shelf
        self.done = done
        self.taken_back = taken_back
        self.papers = papers


def copied(value):
    """The value with new lists in it, and in its tuples."""
    if isinstance(value, list):
        return [copied(part) for part in value]
    return tuple([copied(part) for part in value]) if isinstance(value, tuple) else value


def check_lines(lines):
    """InvalidLines unless a list of deeds."""
    if not is_list(lines):
        raise InvalidLines(None)
    for position, line in enumerate(lines):
        if not is_deed(line):
            raise InvalidLines(position)


def behind_undo(moment):
    """The moment behind `undo`, and the answer."""
    if not moment.done:
        raise NothingToUndo()
    last = moment.done[-1]
    return (Moment(last[1], moment.done[:-1], moment.taken_back + [last], moment.papers), last[0])


def behind_redo(moment):
    """The moment behind `redo`, and the answer."""
    if not moment.taken_back:
        raise NothingToRedo()
    last = moment.taken_back[-1]
    return (Moment(last[2], moment.done + [last], moment.taken_back[:-1], moment.papers), last[0])


def behind_new_deed(moment, command):
    """The moment behind the deed, and the answer."""
    before = moment.shelf
    after = behind_deed(before, command.split(" "))
    if len(moment.done) == MOST_DEEDS:
        raise TooMany("deeds", MOST_DEEDS)
    done = moment.done + [(command, before, after)]
    return (Moment(after, done, [], moment.papers), told_changes(before, after))


def behind_command(moment, command):
    """The moment behind any command, and the answer."""
    if not is_command(command):
        raise InvalidCommand(command)
    words = command.split(" ")
    check_words(moment.shelf, roles_of(words), words[1:])
    if words[0] == "undo":
        return behind_undo(moment)
    if words[0] == "redo":
        return behind_redo(moment)
    if is_deed_word(words[0]):
        return behind_new_deed(moment, command)
    return (moment, answer_to(moment.shelf, words))


def check_label(moment, label):
    """UnknownLabel unless something is noted under the label."""
    if not isinstance(label, str) or label not in moment.shelf.noted:
        raise UnknownLabel(label)


def claim_at(moment, label):
    """The claim of a label, of what is kept now; None while it is gone."""
    check_label(moment, label)
    return claim_now(moment.shelf.kept, moment.shelf.noted[label])


def with_paper(moment, label, paper):
    """The moment with a paper kept with the label."""
    claim = claim_at(moment, label)
    if claim is None:
        raise InvalidPaper(paper)
    of_claim = is_paper_of(claim, paper)
    if not of_claim and not is_paper_of(contrary(claim), paper):
        raise InvalidPaper(paper)
    told = (moment.shelf.noted[label], of_claim, copied(paper))
    return Moment(moment.shelf, moment.done, moment.taken_back, {**moment.papers, label: told})


def does_fit(moment, label):
    """Whether the paper that is kept with the label is one of what it was kept for, as things are now."""
    claim = claim_at(moment, label)
    if claim is None or label not in moment.papers:
        return False
    words, of_claim, paper = moment.papers[label]
    if words != moment.shelf.noted[label]:
        return False
    return is_paper_of(claim if of_claim else contrary(claim), paper)


class Desk:
    """A desk. All of it is its moment: each change puts another moment in its place."""

    def __init__(self):
        self.moment = Moment(Shelf({}, {}, {}), [], [], {})

    @property
    def names(self):
        """The sorted list of the names under which something is kept."""
        return sorted(self.moment.shelf.kept)

    @property
    def labels(self):
        """The sorted list of the labels under which claims are noted."""
        return sorted(self.moment.shelf.noted)

    def __len__(self):
        return len(self.moment.done)

    def __contains__(self, name):
        return isinstance(name, str) and name in self.moment.shelf.kept

    def __getitem__(self, name):
        if not isinstance(name, str) or name not in self.moment.shelf.kept:
            raise UnknownName(name)
        return kept_value(self.moment.shelf.kept[name])

    def __iter__(self):
        raise TypeError("a desk is not iterated over")

    def __call__(self, command):
        return self.do(command)

    def claim_of(self, label):
        """The claim of what is kept now; None while its state is gone."""
        return claim_at(self.moment, label)

    def do(self, command):
        """The answer to the command."""
        moment, answer = behind_command(self.moment, command)
        self.moment = moment
        return answer

    def do_all(self, *commands):
        """The list of the answers to the commands; if one of them fails, none has an effect."""
        before = self.moment
        answers = []
        for position, command in enumerate(commands):
            try:
                answers.append(self.do(command))
            except (ShelfError, MissingError, StateError, LimitError) as cause:
                self.moment = before
                raise CommandFailed(position) from cause
        return answers

    def attempt(self, *commands):
        """The list of the answers to the commands, of which none has an effect."""
        before = self.moment
        answers = self.do_all(*commands)
        self.moment = before
        return answers

    def attach(self, label, paper):
        """Keeps a paper of the label's claim, or of its contrary, with the label."""
        self.moment = with_paper(self.moment, label, paper)

    def fits(self, label):
        """Whether the paper that is kept with the label for its words is still a paper, as things are now."""
        return does_fit(self.moment, label)

    def lines(self):
        """The list of the lines of the deeds that are not taken back."""
        return [line for line, before, after in self.moment.done]

    def copy(self):
        """A desk that goes on by itself."""
        desk = Desk()
        desk.moment = self.moment
        return desk

    @classmethod
    def again(cls, lines):
        """A desk that has done the deeds of these lines."""
        check_lines(lines)
        desk = cls()
        desk.do_all(*lines)
        return desk


class Trial:
    """A block, behind which all of a desk is as it was ahead of it."""

    def __init__(self, desk):
        self.desk = desk
        self.before = desk.moment

    def __enter__(self):
        self.before = self.desk.moment
        return self.desk

    def __exit__(self, kind, value, trace):
        desk = self.desk
        desk.moment = self.before


def tried(desk, action):
    """What the action returns for the desk, called within a trial."""
    with Trial(desk) as held:
        return action(held)
