"""What the tests have in common: strict comparing, wrong values of every kind, and ways of going through all."""

import itertools
import unittest

# Values of every kind of which none is an order, a board, a code, a corner, an exchange or a turn.
ANYTHING = [
    None, True, False, 0, 1, 2, 10, -1, 10 ** 29, -10 ** 29, "", "1", "12", "past", b"", b"\x01", {}, {1: 2}, {1},
    [], (), [None], [True], (True,), [[1]], [(1,)], ((1,),), ((1, 2),), ["1"], [[]], [{}], [-1], (10 ** 29,), len,
]
NO_ORDERS = ANYTHING + [
    [0], [2], (2,), [1, 1], [0, 1], [1, 3], (2, 3), [1, True], (True, 2), [2, 1, False], [1, 2, "3"], [1, [2]], [3, 1, 4],
    [[1, 2], 3], [1, None], "123", {1: 1, 2: 2}, {1, 2}, [-1, 1], [1, 2, 2], list(range(10)), list(range(1, 11)),
    tuple(range(10, 0, -1)), list(range(1, 10)) + [9], [1, 2, 10 ** 29],
]
NO_MANY = [value for value in ANYTHING if value not in (1, 2) or isinstance(value, bool)] + [11, [3], (3,), "3", {3: 3}]
# For words of three things.
NO_WORDS = [value for value in ANYTHING if value not in ([], ())] + [
    [0], [3], [1, 3], (2, 0), [1, True], [True, 2], [2, False], [1, [2]], [1, (2,)], [1, None], [1, "2"], "12", {1: 2},
    [1, -1], [1] * 41, (2, 1) * 21, [1, 10 ** 29],
]
# Words of three things that are not least.
NOT_LEAST = [[1, 1], (2, 2), [1, 2, 1, 2], (2, 1, 2, 1), [1, 2, 2], [1, 1, 2], [1, 2] * 20]
# For places of an order of three things.
NO_PLACES = [value for value in ANYTHING if value not in (0, 1, 2) or isinstance(value, bool)] + [3, 4, [0], (1,), {0}]
# For corners of three things.
NO_CORNERS = ANYTHING + [
    [1, 2], (0, 1), (1, 0), (4, 1), (1, 4), (1,), (1, 2, 3), (True, 1), (1, True), (False, 1), (-1, 1), ("1", 2), (1, "2"),
    (1, None), ((1, 2), 1), (1, [2]), [(1, 2)], "11", (10 ** 29, 1), {1: 2, 2: 3}, ((1, 2), (1, 2)),
]
NO_BOARDS = ANYTHING + [
    [(1, 2)], [(0, 1)], [[1, 1]], [(1,)], [(1, 1, 1)], [(True, 1)], [(1, True)], [("1", 1)], [(1, 1), 2], (1, 1),
    [(1, 2), (1, 1)], [(1, 2), (1, 3)], [(2, 2), (1, 2)], [(1, 1), (1, 1)], [(2, 2), (2, 2)], [(1, 2), [1, 2]],
    [(1, 3), (1, 2), (3, 3)], [(1, 3), (2, 3), (1, 3)], [(1, 1), (3, 3), (3, 3)], [(1, 1), (1, 1), (1, 3)],
    [(1, 2), (False, 2)], [(1, 2), None], [(1, 2), ()], [(1, 10)] * 10, [(1, 2), (2, 1)], [(1, 2), (1, "2")], {(1, 1): 1},
    [(1, 2), (1, 10 ** 29)], [((1, 1),)], ["11"], [(1, (1,))],
]
# For orders of three things.
NO_PLACE_LISTS = ANYTHING + [
    [3], (0, 3), [-1, 0], [0, 0], (1, 1), [1, 0], [2, 1, 0], [0, 2, 1], [0, 1, 2, 3], [False], [0, True], (False, 1), [0, "1"],
    [0, None], [0, [1]], [(0, 1)], {0: 0}, {0}, "01", b"\x00", [0, 10 ** 29], [0, 1, 1],
]
# For signings of two ties.
NO_SIGNINGS = ANYTHING + [
    [0], (1,), [0, 0, 0], [1, 0, 1], [0, 2], [-1, 0], [True, 0], [0, False], (True, True), [0, "1"], ["0", "0"], [0, None],
    [[0, 0]], [(0, 0)], [[0], [0]], "00", b"\x00\x00", {0: 0, 1: 0}, {0, 1}, [0, 10 ** 29],
]
# For the positions of two ties.
NO_TIES = [value for value in ANYTHING if value not in (0, 1) or isinstance(value, bool)] + [2, 3, 36, [0], (1,), {0}, "0"]
# Boards of nine places: that lets everything, that lets one laying, one between.
WHOLE = [(1, 9)] * 9
OWN = [(thing, thing) for thing in range(1, 10)]
STEPS = [(1, 2), (1, 4), (2, 5), (3, 5), (4, 6), (6, 8), (6, 9), (7, 9), (7, 9)]
FOUR = [(4, 2, 3, 1), (3, 5, 1, 4, 2), (4, 2, 5, 1, 3), (3, 5, 1, 6, 2, 4)]
LIST_NAMES = ("order", "other", "word", "code", "board", "way", "places", "signing", "target", "lot", "numbers")


def shown(value):
    """A string that is the same only for equal values of the same kinds, bools and tuples told from others."""
    return repr(value)


def lists_in(value):
    """The ids of all lists and dicts within a value."""
    if not isinstance(value, (list, tuple)):
        return []
    inner = [found for part in value for found in lists_in(part)]
    return inner + ([id(value)] if isinstance(value, list) else [])


def with_kind(named, kind):
    """The arguments, those that are lists made a list, or a tuple."""
    return {name: kind(value) if name in LIST_NAMES else value for name, value in named.items()}


class Case(unittest.TestCase):
    """A test case with the comparisons that the document asks for."""

    def same(self, got, want):
        """Equal, and of the same kinds all through."""
        self.assertEqual(shown(got), shown(want))

    def tells(self, want, function, **named):
        """The function tells this by position and by name, of lists and of tuples; new, and nothing is changed."""
        for kind in (list, tuple):
            given = with_kind(named, kind)
            before = shown(given)
            first = function(*given.values())
            second = function(**given)
            with self.subTest(function=function.__name__, given=before):
                self.same(first, want)
                self.same(second, want)
                self.same(function(**dict(reversed(list(given.items())))), want)
                self.assertEqual(shown(given), before)
                taken = lists_in(second) + lists_in(list(given.values()))
                self.assertFalse([found for found in lists_in(first) if found in taken])

    def fails(self, error, attributes, function, *given, **named):
        """The call raises just this error, with just these attributes, and changes nothing."""
        before = shown((given, named))
        with self.subTest(function=function.__name__, given=before):
            with self.assertRaises(error) as held:
                function(*given, **named)
            self.assertIs(held.exception.__class__, error)
            self.same(vars(held.exception), attributes)
            self.assertEqual(shown((given, named)), before)

    def wrong(self, function, good, rules):
        """Each wrong value raises its error, whatever is wrong behind it in the sequence.

        good: the arguments by name; rules: tuples (name, error, wrong values), as they are looked at.
        """
        for at, (name, error, bad) in enumerate(rules):
            behind = {later: values[0] for later, _, values in rules[at + 1:]}
            for value in bad:
                given = {**good, name: value}
                self.fails(error, {"value": value}, function, *given.values())
                self.fails(error, {"value": value}, function, **given)
                self.fails(error, {"value": value}, function, **{**given, **behind})

    def asks(self, right, wrong, function, **named):
        """The function tells True of the right values, False of the wrong ones, never anything else."""
        for answer, values in ((True, right), (False, wrong)):
            for value in values:
                before = shown((named, value))
                with self.subTest(function=function.__name__, given=before):
                    self.assertIs(function(*named.values(), value), answer)
                    self.assertIs(function(**named, value=value), answer)
                    self.assertEqual(shown((named, value)), before)


def orders_of(size):
    """All orders of so many things, sorted."""
    return list(itertools.permutations(range(1, size + 1)))


def orders_up_to(size):
    """All orders of one to so many things."""
    return [order for many in range(1, size + 1) for order in orders_of(many)]


def boards_of(size):
    """All boards of so many places."""
    rows = list(itertools.combinations_with_replacement(range(1, size + 1), size))
    lows = [row for row in rows if all(low <= at + 1 for at, low in enumerate(row))]
    highs = [row for row in rows if all(high >= at + 1 for at, high in enumerate(row))]
    return [list(zip(low, high)) for low in lows for high in highs]


def boards_up_to(size):
    """All boards of one to so many places."""
    return [board for many in range(1, size + 1) for board in boards_of(many)]


def layings_of(board):
    """All layings of a board, sorted."""
    return [order for order in orders_of(len(board)) if all(low <= at <= high for at, (low, high) in zip(order, board))]


def stretches_of(order):
    """The board of an order, by the words of the document."""
    return [(min(order[at:]), max(order[:at + 1])) for at in range(len(order))]


def pairs_wrong(order):
    """The wrong pairs, by the words of the document."""
    return [(i, j) for j in range(len(order)) for i in range(j) if order[i] > order[j]]


def with_exchange(order, i, j):
    """The order with the things at two places exchanged."""
    things = list(order)
    things[i], things[j] = things[j], things[i]
    return tuple(things)


def come_of(order):
    """All orders that come of an order by exchanging pairs that are wrong when their turn comes, as a set."""
    found = {tuple(order)}
    waiting = [tuple(order)]
    while waiting:
        one = waiting.pop()
        for i, j in pairs_wrong(one):
            lower = with_exchange(one, i, j)
            if lower not in found:
                found.add(lower)
                waiting.append(lower)
    return found


def numbered(things):
    """The order of as many things in the same sequence of sizes."""
    return tuple(1 + sum(other < thing for other in things) for thing in things)


def way_there(order, places):
    """The way at some places, by the words of the document."""
    return numbered([order[place] for place in places])


def all_standings(order, way):
    """All standings, by going through all choices of places."""
    return [places for places in itertools.combinations(range(len(order)), len(way)) if way_there(order, places) == tuple(way)]


def with_thing(order, place, thing):
    """The order with a thing put in: a half below what was called so."""
    things = list(order)
    things.insert(place, thing - 0.5)
    return numbered(things)


def with_things_put_in(order):
    """All orders that come of an order by putting in one thing."""
    size = len(order)
    return [with_thing(order, place, thing) for place in range(size + 1) for thing in range(1, size + 2)]


def order_by(word, many):
    """The order of a word, by the words of the document."""
    things = tuple(range(1, many + 1))
    for letter in word:
        things = with_exchange(things, letter - 1, letter)
    return things


def drawn_order(dice, size):
    """An order of so many things, drawn."""
    return tuple(dice.sample(range(1, size + 1), size))


def drawn_below(dice, order):
    """An order below the order, drawn."""
    things = tuple(order)
    for _ in range(dice.randrange(len(pairs_wrong(order)) + 1)):
        pairs = pairs_wrong(things)
        if pairs:
            things = with_exchange(things, *dice.choice(pairs))
    return things


def drawn_ringless(dice, order):
    """A ringless signing, a list, drawn: the places are put in a sequence."""
    ranks = dice.sample(range(len(order)), len(order))
    return [0 if ranks[i] < ranks[j] else 1 for i, j in sorted(pairs_wrong(order))]


def with_changes(values, others):
    """A list with an element less, one more, one twice, two exchanged, one changed into one of the others."""
    values = list(values)
    told = [values[:at] + values[at + 1:] for at in range(len(values))]
    told += [values[:at] + [other] + values[at:] for at in range(len(values) + 1) for other in others]
    told += [values[:at + 1] + values[at:] for at in range(len(values))]
    told += [values[:at] + [other] + values[at + 1:] for at in range(len(values)) for other in others]
    for i, j in itertools.combinations(range(len(values)), 2):
        told.append(list(with_exchange(values, i, j)))
    return told


def subsets(many):
    """All rising tuples of numbers below many."""
    return [kept for size in range(many + 1) for kept in itertools.combinations(range(many), size)]


def by_level(orders):
    """The orders by their levels, those of one level sorted."""
    return sorted(orders, key=lambda order: (len(pairs_wrong(order)), order))


def signings_of(order):
    """All signings of an order's web, sorted."""
    return [list(signs) for signs in itertools.product((0, 1), repeat=len(pairs_wrong(order)))]


def signed(order, signing):
    """Each tie as it is signed: the place from which it leads, the place to which it leads."""
    return [(i, j) if sign == 0 else (j, i) for (i, j), sign in zip(sorted(pairs_wrong(order)), signing)]


def is_ringless_by_taking_away(order, signing):
    """Whether all places go if, as long as there is one, a place to which each of its ties leads is taken away."""
    led = signed(order, signing)
    left = set(range(len(order)))
    while True:
        last = [place for place in left if not any(start == place and end in left for start, end in led)]
        if not last:
            return not left
        left.remove(last[0])
