"""Layings: how many a board has, all of them, each by how many are ahead of it, and the tops."""

from lowerboards.below import right_above
from lowerboards.boards import check_board, is_laying
from lowerboards.checks import check_number
from lowerboards.errors import NotLaying, TooMany

MOST_PLACES = 6


def check_few_places(board):
    """InvalidBoard unless a board, TooMany if it has more places than are listed."""
    check_board(board)
    if len(board) > MOST_PLACES:
        raise TooMany("places", MOST_PLACES)


def one_place_more(ways, things):
    """In how many ways things are laid on some places and one more, which lets the things that are passed.

    ways: a dict that tells it of those places, for all things, a rising tuple, that can be laid there.
    """
    told = {}
    for taken, count in ways.items():
        for thing in things:
            if thing not in taken:
                longer = tuple(sorted(taken + (thing,)))
                told[longer] = told.get(longer, 0) + count
    return told


def ways_behind(board):
    """For each number of places, from 0 on, in how many ways things are laid on so many last ones, a dict."""
    ways = [{(): 1}]
    for low, high in board[::-1]:
        ways.append(one_place_more(ways[-1], list(range(low, high + 1))))
    return ways


def how_many(board):
    """How many layings the board has."""
    check_board(board)
    return sum(ways_behind(board)[-1].values())


def all_layings(board):
    """The sorted list of the board's layings."""
    check_few_places(board)
    found = [()]
    for low, high in board:
        found = [ahead + (thing,) for ahead in found for thing in range(low, high + 1) if thing not in ahead]
    return found


def without(things, thing):
    """The things, a tuple, but one of them."""
    return tuple([other for other in things if other != thing])


def choices(ways, left, stretch):
    """Each thing that is left and that the place lets, with the number of layings of the others behind it."""
    low, high = stretch
    behind = ways[len(left) - 1]
    return [(thing, behind.get(without(left, thing), 0)) for thing in left if low <= thing <= high]


def first_laying(board, many):
    """The laying that has so many others ahead of it."""
    check_number(many, 0, how_many(board) - 1)
    ways = ways_behind(board)
    left = tuple(range(1, len(board) + 1))
    ahead = many
    things = []
    for stretch in board:
        for thing, count in choices(ways, left, stretch):
            if ahead < count:
                break
            ahead -= count
        things.append(thing)
        left = without(left, thing)
    return tuple(things)


def before(board, order):
    """How many layings stand ahead of this one."""
    if not is_laying(board, order):
        raise NotLaying()
    ways = ways_behind(board)
    left = tuple(range(1, len(board) + 1))
    ahead = 0
    for stretch, thing in zip(board, order):
        ahead += sum([count for lesser, count in choices(ways, left, stretch) if lesser < thing])
        left = without(left, thing)
    return ahead


def tops(board):
    """The sorted list of the layings that are below no other one."""
    found = all_layings(board)
    # Whatever is below a laying is one: so it is enough to look right above.
    return [order for order in found if not any([is_laying(board, upper) for upper in right_above(order)])]
