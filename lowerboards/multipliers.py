"""Multipliers: thing steps and place steps, which take an even order apart, and the row that they make."""

from lowerboards.checks import are_within_bounds, check_order, is_list
from lowerboards.errors import InvalidKind, InvalidRow, NoStep
from lowerboards.standing import taken_out

KINDS = ("thing", "place")
MOST_STEPS = 8


def ever_falls(things):
    """Whether each of the things is greater than the next one."""
    return all(thing > following for thing, following in zip(things, things[1:]))


def multiplier(order, kind):
    """The multiplier of this step; None if it does not fit."""
    size = len(order)
    if size == 1:
        return None
    if kind == "thing":
        place = order.index(size)
        return size - place - 1 if ever_falls(order[place:]) else None
    last = order[-1]
    return size - last if ever_falls([thing for thing in order if thing > last]) else None


def behind_step(order, kind):
    """The order to which a step that fits leads."""
    return taken_out(order, order.index(len(order)) if kind == "thing" else len(order) - 1)


def step_at(order):
    """The first of both steps that fits, a tuple of its word and its multiplier; None if neither does."""
    check_order(order)
    for kind in KINDS:
        number = multiplier(order, kind)
        if number is not None:
            return (kind, number)
    return None


def stepped(order, kind):
    """The order to which the step leads."""
    check_order(order)
    if kind not in KINDS:
        raise InvalidKind(kind)
    if multiplier(order, kind) is None:
        raise NoStep()
    return behind_step(order, kind)


def steps_with_multipliers(order):
    """Steps of the order, each with its multiplier; None if there are none."""
    told = []
    step = step_at(order)
    left = tuple(order)
    # Whichever step is taken: what is left of an even order is even, of another one it never is.
    while step is not None:
        told.append(step)
        left = behind_step(left, step[0])
        step = step_at(left)
    return told if len(left) == 1 else None


def multipliers(order):
    """The sorted list of the order's multipliers; None if it is not even."""
    told = steps_with_multipliers(order)
    return None if told is None else sorted([number for kind, number in told])


def steps(order):
    """Steps of the order, a list of words; None if there are none."""
    told = steps_with_multipliers(order)
    return None if told is None else [kind for kind, number in told]


def is_steps(order, value):
    """Whether any value is steps of the order."""
    check_order(order)
    if not is_list(value):
        return False
    left = tuple(order)
    for kind in value:
        if kind not in KINDS or multiplier(left, kind) is None:
            return False
        left = behind_step(left, kind)
    return len(left) == 1


def times_ones(row, many):
    """The row, multiplied as sums of powers are, by a row of so many ones."""
    told = [0] * (len(row) + many - 1)
    for at, count in enumerate(row):
        for ahead in range(many):
            told[at + ahead] += count
    return told


def row_of(numbers):
    """The product of the rows of m + 1 ones for the numbers m."""
    if not are_within_bounds(numbers, 0, MOST_STEPS) or len(numbers) > MOST_STEPS:
        raise InvalidRow(numbers)
    row = [1]
    for number in numbers:
        row = times_ones(row, number + 1)
    return row
