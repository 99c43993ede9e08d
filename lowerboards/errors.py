"""The errors of the package: four families, and the errors of each."""


class ShelfError(ValueError):
    """A value that was passed is not valid."""


class InvalidBoard(ShelfError):
    """What was passed is no board."""

    def __init__(self, value):
        self.value = value


class InvalidCorner(ShelfError):
    """What was passed is no corner of so many things."""

    def __init__(self, value):
        self.value = value


class InvalidMany(ShelfError):
    """What was passed is no COUNT within its bounds."""

    def __init__(self, value):
        self.value = value


class InvalidOrder(ShelfError):
    """What was passed is no order."""

    def __init__(self, value):
        self.value = value


class InvalidPlace(ShelfError):
    """What was passed is no place of the order."""

    def __init__(self, value):
        self.value = value


class InvalidSigning(ShelfError):
    """What was passed is no signing of the order's web."""

    def __init__(self, value):
        self.value = value


class InvalidThing(ShelfError):
    """What was passed is no thing of the order."""

    def __init__(self, value):
        self.value = value


class InvalidWord(ShelfError):
    """What was passed is no word, or not such a one."""

    def __init__(self, value):
        self.value = value


class InvalidClaim(ShelfError):
    """What was passed is no claim."""

    def __init__(self, value):
        self.value = value


class InvalidCode(ShelfError):
    """What was passed is the code of no order."""

    def __init__(self, value):
        self.value = value


class InvalidCommand(ShelfError):
    """What was passed is no command."""

    def __init__(self, value):
        self.value = value


class InvalidForm(ShelfError):
    """What was passed is no value of the kind."""

    def __init__(self, value):
        self.value = value


class InvalidGrowing(ShelfError):
    """What was passed is no growing, or no knot order, of the order."""

    def __init__(self, value):
        self.value = value


class InvalidKind(ShelfError):
    """What was passed is none of the words that name a kind."""

    def __init__(self, value):
        self.value = value


class InvalidLines(ShelfError):
    """The line at the position is no deed; None: no list was passed."""

    def __init__(self, position):
        self.position = position


class InvalidLot(ShelfError):
    """What was passed is no lot of the word."""

    def __init__(self, value):
        self.value = value


class InvalidPaper(ShelfError):
    """What was passed is no paper as things are now."""

    def __init__(self, value):
        self.value = value


class InvalidPlaces(ShelfError):
    """What was passed is no rising list of places of the order."""

    def __init__(self, value):
        self.value = value


class InvalidPosition(ShelfError):
    """What was passed is no position of the word."""

    def __init__(self, value):
        self.value = value


class InvalidRow(ShelfError):
    """What was passed is no list of such COUNTS."""

    def __init__(self, value):
        self.value = value


class InvalidText(ShelfError):
    """The line, counted from 1, is the wrong one; 0: no string was passed."""

    def __init__(self, line):
        self.line = line


class InvalidTie(ShelfError):
    """What was passed is the position of no tie."""

    def __init__(self, value):
        self.value = value


class InvalidTurn(ShelfError):
    """What was passed is no turn of the word."""

    def __init__(self, value):
        self.value = value


class MissingError(LookupError):
    """What was asked for is not there."""


class UnknownLabel(MissingError):
    """Nothing is noted under the label."""

    def __init__(self, value):
        self.value = value


class UnknownName(MissingError):
    """Nothing is kept under the name."""

    def __init__(self, value):
        self.value = value


class StateError(RuntimeError):
    """Values that are valid do not go together, or not now."""


class UnlikeSizes(StateError):
    """Two orders have not as many things."""


class CommandFailed(StateError):
    """The command at the position failed."""

    def __init__(self, position):
        self.position = position


class LabelTaken(StateError):
    """A claim is noted under the label."""

    def __init__(self, label):
        self.label = label


class NameTaken(StateError):
    """Something is kept under the name."""

    def __init__(self, name):
        self.name = name


class NoStep(StateError):
    """The step does not fit."""


class NotBelow(StateError):
    """The order is not below the other one."""


class NotLaying(StateError):
    """The order is no laying of the board."""


class NotOne(StateError):
    """No single exchange leads upward from the one to the other."""


class NotRingless(StateError):
    """A signing that is passed has a ring."""


class NotStair(StateError):
    """The board is no stair."""


class NotTwo(StateError):
    """The length of the stretch is not 2."""


class NothingToRedo(StateError):
    """No deed was taken back that can be done again."""


class NothingToUndo(StateError):
    """There is no deed to take back."""


class TooFew(StateError):
    """The order has just one thing."""


class UnlikeOrders(StateError):
    """Two words have not one order."""


class WrongKind(StateError):
    """Under the name something of the other kind is kept."""

    def __init__(self, name):
        self.name = name


class LimitError(ArithmeticError):
    """There is more than the package takes."""


class TooMany(LimitError):
    """There are more of what is named than the limit."""

    def __init__(self, what, limit):
        self.what = what
        self.limit = limit
