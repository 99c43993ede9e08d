"""What the tests have in common: strict comparing, wrong values of every kind, and ways of going through all."""

import itertools
import unittest

# Values of every kind of which none is an order, a board, a code, a corner, an exchange or a turn.
ANYTHING = [
    None, True, False, 0, 1, 2, 10, -1, 10 ** 29, -10 ** 29, "", "1", "12", "past", b"", b"\x01", {}, {1: 2}, {1},
    [], (), [None], [True], (True,), [[1]], [(1,)], ((1,),), ((1, 2),), ["1"], [[]], [{}], [-1], (10 ** 29,), len,
]
NO_ORDERS = ANYTHING + [
    [0], [2], (2,), [1, 1], [0, 1], [1, 3], (2, 3), [1, True], (True, 2), [2, 1, False], [1, 2, "3"], [1, [2]], [3, 1, 4],
    [[1, 2], 3], [1, None], "123", {1: 1, 2: 2}, {1, 2}, [-1, 1], [1, 2, 2], list(range(10)), list(range(1, 11)),
    tuple(range(10, 0, -1)), list(range(1, 10)) + [9], [1, 2, 10 ** 29],
]
NO_MANY = [value for value in ANYTHING if value not in (1, 2) or isinstance(value, bool)] + [11, [3], (3,), "3", {3: 3}]
# For words of three things.
NO_WORDS = [value for value in ANYTHING if value not in ([], ())] + [
    [0], [3], [1, 3], (2, 0), [1, True], [True, 2], [2, False], [1, [2]], [1, (2,)], [1, None], [1, "2"], "12", {1: 2},
    [1, -1], [1] * 41, (2, 1) * 21, [1, 10 ** 29],
]
# Words of three things that are not least.
NOT_LEAST = [[1, 1], (2, 2), [1, 2, 1, 2], (2, 1, 2, 1), [1, 2, 2], [1, 1, 2], [1, 2] * 20]
# For places of an order of three things.
NO_PLACES = [value for value in ANYTHING if value not in (0, 1, 2) or isinstance(value, bool)] + [3, 4, [0], (1,), {0}]
# For corners of three things.
NO_CORNERS = ANYTHING + [
    [1, 2], (0, 1), (1, 0), (4, 1), (1, 4), (1,), (1, 2, 3), (True, 1), (1, True), (False, 1), (-1, 1), ("1", 2), (1, "2"),
    (1, None), ((1, 2), 1), (1, [2]), [(1, 2)], "11", (10 ** 29, 1), {1: 2, 2: 3}, ((1, 2), (1, 2)),
]
NO_BOARDS = ANYTHING + [
    [(1, 2)], [(0, 1)], [[1, 1]], [(1,)], [(1, 1, 1)], [(True, 1)], [(1, True)], [("1", 1)], [(1, 1), 2], (1, 1),
    [(1, 2), (1, 1)], [(1, 2), (1, 3)], [(2, 2), (1, 2)], [(1, 1), (1, 1)], [(2, 2), (2, 2)], [(1, 2), [1, 2]],
    [(1, 3), (1, 2), (3, 3)], [(1, 3), (2, 3), (1, 3)], [(1, 1), (3, 3), (3, 3)], [(1, 1), (1, 1), (1, 3)],
    [(1, 2), (False, 2)], [(1, 2), None], [(1, 2), ()], [(1, 10)] * 10, [(1, 2), (2, 1)], [(1, 2), (1, "2")], {(1, 1): 1},
    [(1, 2), (1, 10 ** 29)], [((1, 1),)], ["11"], [(1, (1,))],
]
LIST_NAMES = ("order", "other", "word", "code", "board")


def shown(value):
    """A string that is the same only for equal values of the same kinds, bools and tuples told from others."""
    return repr(value)


def lists_in(value):
    """The ids of all lists and dicts within a value."""
    if not isinstance(value, (list, tuple)):
        return []
    inner = [found for part in value for found in lists_in(part)]
    return inner + ([id(value)] if isinstance(value, list) else [])


def with_kind(named, kind):
    """The arguments, those that are lists made a list, or a tuple."""
    return {name: kind(value) if name in LIST_NAMES else value for name, value in named.items()}


class Case(unittest.TestCase):
    """A test case with the comparisons that the document asks for."""

    def same(self, got, want):
        """Equal, and of the same kinds all through."""
        self.assertEqual(shown(got), shown(want))

    def tells(self, want, function, **named):
        """The function tells this by position and by name, of lists and of tuples; new, and nothing is changed."""
        for kind in (list, tuple):
            given = with_kind(named, kind)
            before = shown(given)
            first = function(*given.values())
            second = function(**given)
            with self.subTest(function=function.__name__, given=before):
                self.same(first, want)
                self.same(second, want)
                self.same(function(**dict(reversed(list(given.items())))), want)
                self.assertEqual(shown(given), before)
                taken = lists_in(second) + lists_in(list(given.values()))
                self.assertFalse([found for found in lists_in(first) if found in taken])

    def fails(self, error, attributes, function, *given, **named):
        """The call raises just this error, with just these attributes, and changes nothing."""
        before = shown((given, named))
        with self.subTest(function=function.__name__, given=before):
            with self.assertRaises(error) as held:
                function(*given, **named)
            self.assertIs(held.exception.__class__, error)
            self.same(vars(held.exception), attributes)
            self.assertEqual(shown((given, named)), before)

    def wrong(self, function, good, rules):
        """Each wrong value raises its error, whatever is wrong behind it in the sequence.

        good: the arguments by name; rules: tuples (name, error, wrong values), as they are looked at.
        """
        for at, (name, error, bad) in enumerate(rules):
            behind = {later: values[0] for later, _, values in rules[at + 1:]}
            for value in bad:
                given = {**good, name: value}
                self.fails(error, {"value": value}, function, *given.values())
                self.fails(error, {"value": value}, function, **given)
                self.fails(error, {"value": value}, function, **{**given, **behind})

    def asks(self, right, wrong, function, **named):
        """The function tells True of the right values, False of the wrong ones, never anything else."""
        for answer, values in ((True, right), (False, wrong)):
            for value in values:
                before = shown((named, value))
                with self.subTest(function=function.__name__, given=before):
                    self.assertIs(function(*named.values(), value), answer)
                    self.assertIs(function(**named, value=value), answer)
                    self.assertEqual(shown((named, value)), before)


def orders_of(size):
    """All orders of so many things, sorted."""
    return list(itertools.permutations(range(1, size + 1)))


def orders_up_to(size):
    """All orders of one to so many things."""
    return [order for many in range(1, size + 1) for order in orders_of(many)]


def pairs_wrong(order):
    """The wrong pairs, by the words of the document."""
    return [(i, j) for j in range(len(order)) for i in range(j) if order[i] > order[j]]


def with_exchange(order, i, j):
    """The order with the things at two places exchanged."""
    things = list(order)
    things[i], things[j] = things[j], things[i]
    return tuple(things)


def come_of(order):
    """All orders that come of an order by exchanging pairs that are wrong when their turn comes, as a set."""
    found = {tuple(order)}
    waiting = [tuple(order)]
    while waiting:
        one = waiting.pop()
        for i, j in pairs_wrong(one):
            lower = with_exchange(one, i, j)
            if lower not in found:
                found.add(lower)
                waiting.append(lower)
    return found


def order_by(word, many):
    """The order of a word, by the words of the document."""
    things = tuple(range(1, many + 1))
    for letter in word:
        things = with_exchange(things, letter - 1, letter)
    return things


def subsets(many):
    """All rising tuples of numbers below many."""
    return [kept for size in range(many + 1) for kept in itertools.combinations(range(many), size)]


def by_level(orders):
    """The orders by their levels, those of one level sorted."""
    return sorted(orders, key=lambda order: (len(pairs_wrong(order)), order))
