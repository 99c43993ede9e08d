"""[93] and [94]: claims, their contraries, their papers."""

import itertools
import random

from lowerboards.boards import board_of
from lowerboards.claims import contrary, is_claim, is_paper_of, is_true, paper_of, words
from lowerboards.errors import InvalidClaim
from lowerboards.lots import kept_lots
from lowerboards.words import a_word
from tests.helper import (
    ANYTHING, FOUR, Case, all_standings, come_of, drawn_below, drawn_order, drawn_ringless, is_ringless_by_taking_away, lists_in,
    order_by, orders_of, orders_up_to, pairs_wrong, shown, signed, signings_of, with_changes, with_exchange,
)
from tests.test_beyond import all_papers
from tests.test_corners import count_at, corners_of, matters
from tests.test_lots import all_kept, order_without
from tests.test_multipliers import all_steps

LINES = [("below", "over"), ("board", "beyond"), ("alike", "unlike"), ("named", "unnamed"), ("ringless", "round"), ("same", "other")]
OTHER = dict(LINES + [(two, one) for one, two in LINES])
NINE = tuple(range(1, 10))
FALLING = tuple(range(9, 0, -1))
MIXED = (5, 9, 3, 1, 8, 2, 7, 6, 4)
UNEVEN = [(3, 4, 1, 2), (4, 2, 3, 1)]


def whole(value):
    """A list or tuple of INTEGERS as a tuple, None for any other value."""
    fits = isinstance(value, (list, tuple)) and all(part.__class__ is int for part in value)
    return tuple(value) if fits else None


def rows_in(value, kinds=(tuple,)):
    """A list of tuples (or lists) of INTEGERS as a list of tuples, None for any other value."""
    if not isinstance(value, (list, tuple)) or not all(isinstance(part, kinds) and whole(part) is not None for part in value):
        return None
    return [tuple(part) for part in value]


def is_chain_down(value, order, other):
    """Whether the value is a list of exchanges from the other one down to the order, by the words of the document."""
    rows = rows_in(value)
    if rows is None or not all(len(row) == 2 and 0 <= row[0] < row[1] < len(order) for row in rows):
        return False
    things = tuple(other)
    for i, j in rows:
        lower = with_exchange(things, i, j)
        if len(pairs_wrong(lower)) != len(pairs_wrong(things)) - 1:
            return False
        things = lower
    return things == tuple(order)


def is_corner_over(value, order, other):
    """Whether the value is a corner that counts more in the order."""
    corner = whole(value)
    if not isinstance(value, tuple) or corner is None or corner not in corners_of(len(order)):
        return False
    return count_at(order, corner) > count_at(other, corner)


def is_table_of_corners(value, order):
    """Whether the value tells each corner that matters and what it counts, which is 0 or as the document says."""
    want = [(m, k, count_at(order, (m, k))) for m, k in corners_of(len(order)) if matters(order, (m, k))]
    return rows_in(value) == want and all(count in (0, m - k + 1) for m, k, count in want)


def is_way_with_places(value, order):
    """Whether the value is a beyond paper."""
    if not isinstance(value, tuple) or len(value) != 3:
        return False
    return tuple(whole(part) for part in value) in all_papers(tuple(order))


def is_row_of_steps(value, order):
    """Whether the value is steps."""
    return isinstance(value, (list, tuple)) and tuple(value) in [row for row, _ in all_steps(tuple(order))]


def is_row_of_ways(value, order):
    """Whether the value is an uneven paper."""
    rows = rows_in(value)
    size = len(order)
    if rows is None or not all(len(row) == 2 and 0 <= row[0] < row[1] < size for row in rows) or len(set(rows)) < len(rows):
        return False
    lower = come_of(order)
    return len(rows) > len(pairs_wrong(order)) and all(with_exchange(range(1, size + 1), i, j) in lower for i, j in rows)


def is_naming_lot(value, word, many, order):
    """Whether the value is a kept lot that names the order."""
    lot = whole(value)
    return lot is not None and list(lot) in all_kept(tuple(word), many) and order_without(word, many, lot) == tuple(order)


def is_table_of_lots(value, word, many, order):
    """Whether the value tells all kept lots, none of which names the order."""
    rows = rows_in(value, (list, tuple))
    want = all_kept(tuple(word), many)
    return rows == list(map(tuple, want)) and all(order_without(word, many, lot) != tuple(order) for lot in want)


def is_row_of_places(value, order, signing):
    """Whether the value tells all places, each tie leading from one to a later one."""
    places = whole(value)
    if places is None or sorted(places) != list(range(len(order))):
        return False
    return all(places.index(start) < places.index(end) for start, end in signed(order, signing))


def is_row_of_a_ring(value, order, signing):
    """Whether the value is a ring."""
    places = whole(value)
    if places is None or len(places) < 3 or len(set(places)) < len(places):
        return False
    return all(step in signed(order, signing) for step in zip(places, (*places[1:], places[0])))


def without(word, positions):
    """The word without the letters at the positions."""
    return [letter for at, letter in enumerate(word) if at not in positions]


def lessens(value, word, many):
    """Whether the value is a rising list of positions that lessen the word."""
    positions = whole(value)
    if positions is None or list(positions) != sorted(set(positions)) or not set(positions) <= set(range(len(word))):
        return False
    left = without(word, positions)
    return order_by(left, many) == order_by(word, many) and len(left) == len(pairs_wrong(order_by(left, many)))


def behind_turns(word, value):
    """The word behind the turns; None if they are none."""
    letters = list(word)
    if not isinstance(value, (list, tuple)):
        return None
    for step in value:
        if not isinstance(step, tuple) or len(step) != 2 or step[1].__class__ is not int or step[1] < 0:
            return None
        kind, at = step
        two, three = letters[at:at + 2], letters[at:at + 3]
        if kind == "past" and len(two) == 2 and abs(two[0] - two[1]) > 1:
            letters[at:at + 2] = two[::-1]
        elif kind == "round" and len(three) == 3 and three[0] == three[2] and abs(three[0] - three[1]) == 1:
            letters[at:at + 3] = [three[1], three[0], three[1]]
        else:
            return None
    return letters


def is_way_of_words(value, word, other, many):
    """Whether the value lessens both words and leads from the one to the other."""
    if not isinstance(value, tuple) or len(value) != 3 or not lessens(value[0], word, many) or not lessens(value[1], other, many):
        return False
    return behind_turns(without(word, value[0]), value[2]) == without(other, value[1])


def are_unlike_orders(value, word, other, many):
    """Whether the value tells the orders of both words, unlike ones."""
    if not isinstance(value, tuple) or len(value) != 2:
        return False
    want = (order_by(word, many), order_by(other, many))
    return (whole(value[0]), whole(value[1])) == want and want[0] != want[1]


REFERENCE = {
    "below": is_chain_down, "over": is_corner_over, "board": is_table_of_corners, "beyond": is_way_with_places, "alike": is_row_of_steps,
    "unlike": is_row_of_ways, "named": is_naming_lot, "unnamed": is_table_of_lots, "ringless": is_row_of_places, "round": is_row_of_a_ring,
    "same": is_way_of_words, "other": are_unlike_orders,
}
TRUE = {
    "below": lambda order, other: tuple(order) in come_of(other),
    "board": lambda order: not any(all_standings(order, way) for way in FOUR),
    "alike": lambda order: not any(all_standings(order, way) for way in UNEVEN),
    "named": lambda word, many, order: any(order_without(word, many, lot) == tuple(order) for lot in all_kept(tuple(word), many)),
    "ringless": is_ringless_by_taking_away,
    "same": lambda word, other, many: order_by(word, many) == order_by(other, many),
}


def parts_of_each():
    """By the first word of each line: parts of claims, some for which it is true, some for which not."""
    dice = random.Random(93)
    pairs = list(itertools.product(orders_of(3), repeat=2)) + list(itertools.product(orders_of(4)[::5], orders_of(4)[::4]))
    pairs += [((1,), (1,)), (UNEVEN[0], UNEVEN[1]), (FOUR[1], FOUR[2])]
    orders = orders_up_to(3) + orders_of(4)[::3] + FOUR + UNEVEN + [(4, 5, 3, 1, 2), (5, 4, 3, 2, 1)]
    written = [a_word(order) for order in orders_of(4)[::5]] + [[1, 2, 1], [2, 1, 2], [1, 3], [3, 1], [2, 1, 3, 2], [1, 2, 3, 2, 1], []]
    named = [(word, 4, order) for word in written for order in orders_of(4)[::3]] + [([1, 2, 1], 3, order) for order in orders_of(3)]
    named += [([], 1, (1,)), (a_word((4, 2, 3, 1)), 4, (3, 4, 1, 2)), (a_word((4, 2, 3, 1)), 4, (2, 1, 4, 3))]
    named += [(a_word((4, 2, 3, 1)), 4, order) for order in sorted(come_of((4, 2, 3, 1)))]
    named += [(a_word((5, 4, 3, 2, 1)), 5, order) for order in ((1, 2, 3, 4, 5), (5, 4, 3, 2, 1), (3, 5, 1, 4, 2))]
    signs = [(order, signing) for order in orders_of(3) + [(3, 4, 1, 2), (1,)] for signing in signings_of(order)]
    signs += [((4, 3, 2, 1), drawn_ringless(dice, (4, 3, 2, 1))), ((4, 3, 2, 1), [0, 0, 1, 0, 0, 0])]
    spare = [[1, 1], [1, 2, 1, 2], [2, 1, 2], [1, 2, 1], [], [2, 2, 1], [1, 3, 3, 1, 2], [3, 1], [1, 3], [2, 1, 3, 2, 2]]
    same = [(one, two, 4) for one, two in itertools.product(spare, repeat=2)] + [([], [], 1), ([1, 1], [], 2), ([1], [], 2)]
    return {"below": pairs, "board": [(one,) for one in orders], "alike": [(one,) for one in orders], "named": named, "ringless": signs, "same": same}


PARTS = parts_of_each()
GIVEN = [(first, two, parts) for first, two in LINES for parts in PARTS[first]]
CHANGED_INTO = [0, 1, 3, True, False, None, "1", [], (), (0, 1), [0, 1], (0, 0), (1, 0), (0, 2), ("past", 0), ("round", 0), "thing", "place",
    (1, 1, 0), (2, 2, 1)]
NO_CLAIMS = ANYTHING + [
    "below", ("below",), ("below", (1, 2)), ("below", (1, 2), (2, 1), (2, 1)), ["below", (1, 2), (2, 1)], ("below", (1, 2), (1,)),
    ("below", (1, 2), (2, 2)),
    ("over", (1, True), (2, 1)), ("Below", (1, 2), (2, 1)), ("under", (1, 2), (2, 1)), (b"below", (1, 2), (2, 1)), (("below",), (1, 2), (2, 1)),
    (["below"], (1, 2), (2, 1)), ("below", "12", "21"), ("below", None, (1,)), ("over", (1,), {1: 1}), ("below", ((1, 2), (2, 1))),
    ("board",), ("board", (2, 2)), ("board", (1,), (1,)), ("beyond", None), ("beyond", list(range(1, 11))), ("board", [(1, 1)]), ["board", (1,)],
    ("board", ()),
    ("alike", (0,)), ("unlike", 1), ("alike", (1,), (1,)), ("even", (1,)), ("unlike", "1"), ("unlike",),
    ("named", [1, 1], 2, (1, 2)), ("named", [1], 2, (1, 2, 3)), ("named", [2], 2, (1, 2)), ("named", [1], 10, (1, 2)), ("named", [1], True, (1,)),
    ("named", [1], 2), ("named", 2, [1], (1, 2)), ("named", [1], 2, (2, 2)), ("unnamed", [1], 2, (1, 2), (1, 2)), ("unnamed", None, 2, (1, 2)),
    ("unnamed", [1], None, (1, 2)),
    ("named", [1, 2, 3, 4, 5, 6, 7, 8, 1, 2, 3], 9, NINE), ("unnamed", a_word((6, 5, 4, 3, 2, 1)), 6, (1, 2, 3, 4, 5, 6)), ("named", [], 0, ()),
    ("unnamed", [], 2, None),
    ("ringless", (2, 1), [2]), ("ringless", (2, 1), []), ("ringless", (2, 1), [0, 0]), ("ringless", (2, 1), [True]), ("round", (2, 1), None),
    ("round", (2, 2), [0]),
    ("ringless", (2, 1)), ("round", (2, 1), [0], [0]), ("round", (2, 1), "0"), ("ringless", (2, 1), 0),
    ("same", [1], [2], 2), ("same", [2], [1], 2), ("same", [1], [1]), ("same", [1], [1], 10), ("same", [1], [1], None), ("same", [1], [1], True),
    ("same", [1], 2, [1]),
    ("other", [1] * 41, [], 2), ("other", [], [1] * 41, 2), ("other", [1], [1], 2, 2), ("other", "1", [1], 2), ("other", [True], [1], 2),
    ("same", [], [], 0), ("same", [], [], -1),
]


def as_kind(parts, kind):
    """The parts with all that may be a list made one, or a tuple."""
    return tuple(kind(part) if isinstance(part, (list, tuple)) else part for part in parts)


def kinds_of_paper(value):
    """The value with the outermost list or tuple made the other one, and with one of those in it made so."""
    if not isinstance(value, (list, tuple)):
        return []
    told = [list(value) if isinstance(value, tuple) else tuple(value)]
    for at, part in enumerate(value):
        told += [value[:at] + type(value)([other]) + value[at + 1:] for other in kinds_of_paper(part)]
    return told


def changes_of(value):
    """The value with an element less, one more, one exchanged, one changed, on its outside or within it."""
    if not isinstance(value, (list, tuple)):
        return []
    kind = type(value)
    told = [kind(one) for one in with_changes(value, CHANGED_INTO)]
    for at, part in enumerate(value[:4]):
        told += [value[:at] + kind([other]) + value[at + 1:] for other in changes_of(part)[::3]]
    return told


class Examples(Case):
    def test_examples(self):
        claim = ("below", (1, 3, 2), [3, 1, 2])
        self.same(
            [
                is_true(claim), contrary(claim), is_paper_of(claim, [(0, 1)]), is_paper_of(("over", (2, 3, 1), (3, 1, 2)), (2, 2)),
                is_true(("board", (4, 2, 3, 1))),
            ],
            [True, ("over", (1, 3, 2), [3, 1, 2]), True, True, False],
        )


class Claims(Case):
    def test_words(self):
        self.tells(LINES, words)
        taken = words()
        taken.clear()
        self.same(words(), LINES)

    def test_of_each_word_some_are_true_and_some_are_not(self):
        for first, _ in LINES:
            self.assertEqual({TRUE[first](*parts) for parts in PARTS[first]}, {True, False}, first)

    def test_is_claim_and_is_true(self):
        for first, two, parts in GIVEN:
            truth = TRUE[first](*parts)
            for kind in (list, tuple):
                for word in (first, two):
                    claim = (word, *as_kind(parts, kind))
                    before = shown(claim)
                    self.assertIs(is_claim(claim), True)
                    self.assertIs(is_claim(value=claim), True)
                    self.assertIs(is_true(claim), truth == (word == first), claim)
                    self.assertIs(is_true(claim=claim), truth == (word == first))
                    self.assertEqual(shown(claim), before)

    def test_contrary(self):
        for first, two, parts in GIVEN[::3]:
            for kind in (list, tuple):
                for word in (first, two):
                    claim = (word, *as_kind(parts, kind))
                    found = contrary(claim)
                    self.same(found, (OTHER[word], *claim[1:]))
                    self.same(contrary(claim=claim), found)
                    self.assertFalse(set(lists_in(found)) & set(lists_in(claim)))
                    self.same(contrary(found), claim)

    def test_no_claims(self):
        for value in NO_CLAIMS:
            with self.subTest(value=shown(value)):
                self.assertIs(is_claim(value), False)
                self.assertIs(is_claim(value=value), False)
                for function in (is_true, contrary, paper_of):
                    self.fails(InvalidClaim, {"value": value}, function, value)
                    self.fails(InvalidClaim, {"value": value}, function, claim=value)
                for paper in (None, [], (1, 1)):
                    self.fails(InvalidClaim, {"value": value}, is_paper_of, value, paper)
                    self.fails(InvalidClaim, {"value": value}, is_paper_of, claim=value, value=paper)

    def test_claims_of_nine_things(self):
        dice = random.Random(94)
        for other in (FALLING, MIXED, drawn_order(dice, 9), drawn_order(dice, 8)):
            for order in (drawn_below(dice, other), drawn_order(dice, len(other))):
                claims = [("below", order, other), ("board", order), ("alike", order), ("ringless", other, drawn_ringless(dice, other))]
                claims += [("same", a_word(order), a_word(other), len(order)), ("same", a_word(order) + [1, 1], a_word(order), len(order))]
                for claim in claims:
                    one = claim if is_true(claim) else contrary(claim)
                    self.assertIs(is_true(contrary(one)), False)
                    self.assertIsNone(paper_of(contrary(one)))
                    self.assertIs(is_paper_of(one, paper_of(one)), True)
                    self.assertIs(is_paper_of(contrary(one), paper_of(one)), False)
        self.assertIs(is_paper_of(("round", FALLING, [0] * 7 + [1] + [0] * 28), [0, 4, 8]), True)
        for order in (NINE, (2, 1, 3, 4, 5, 6, 7, 8, 9), FALLING):
            claim = ("named", [1, 2, 3, 4, 5, 6, 7, 8], 9, order)
            self.assertIs(is_true(claim), order != FALLING)
            one = claim if order != FALLING else contrary(claim)
            self.assertIs(is_paper_of(one, paper_of(one)), True)


class Papers(Case):
    def papers(self, claim, others):
        """What paper_of tells of a claim is one, and each other value is told rightly."""
        word, *parts = claim
        holds = REFERENCE[word]
        found = paper_of(claim)
        self.same(paper_of(claim=claim), found)
        if found is not None:
            self.assertFalse(set(lists_in(found)) & set(lists_in(paper_of(claim)) + lists_in(claim)))
        for value in [found] + others + kinds_of_paper(found) + changes_of(found):
            before = shown((claim, value))
            want = value is not None and bool(holds(value, *parts))
            self.assertIs(is_paper_of(claim, value), want, before)
            self.assertEqual(shown((claim, value)), before)
        self.assertIs(is_paper_of(claim=claim, value=found), found is not None)
        return found

    def test_just_one_of_a_claim_and_its_contrary_has_a_paper(self):
        papers = {}
        for first, two, parts in GIVEN:
            claim = (first, *parts) if TRUE[first](*parts) else (two, *parts)
            found = paper_of(claim)
            self.assertIsNotNone(found, claim)
            self.assertIsNone(paper_of(contrary(claim)))
            self.assertIs(is_paper_of(claim, found), True)
            self.assertIs(is_paper_of(contrary(claim), found), False)
            self.assertTrue(REFERENCE[claim[0]](found, *parts))
            papers.setdefault(claim[0], []).append(found)
        self.assertEqual(sorted(papers), sorted(REFERENCE))

    def test_papers_that_are_changed_and_others(self):
        some = []
        for first, two, parts in GIVEN:
            claim = (first, *parts) if TRUE[first](*parts) else (two, *parts)
            some.append(paper_of(claim))
        others = some[::23] + ANYTHING
        for first, two, parts in GIVEN[::3] + GIVEN[-3:]:
            for kind in (list, tuple):
                for word in (first, two):
                    self.papers((word, *as_kind(parts, kind)), others)

    def test_kinds_of_what_is_told(self):
        self.same(paper_of(("below", [1, 2, 3], [2, 1, 3])), [(0, 1)])
        self.same(paper_of(("over", [2, 1], [1, 2])), (1, 2))
        self.same(paper_of(("board", [3, 1, 2])), [(2, 2, 1)])
        self.same(paper_of(("board", [3, 2, 1])), [])
        self.same(paper_of(("board", [2, 1, 4, 3])), [(2, 3, 0)])
        self.same(paper_of(("beyond", [4, 2, 3, 1])), ((4, 2, 3, 1), (0, 1, 2, 3), (3, 4, 1, 2)))
        self.same(paper_of(("alike", [1])), [])
        self.same(paper_of(("named", [1, 2, 1], 3, [1, 2, 3])), [1])
        self.same(paper_of(("unnamed", [1, 2], 3, [3, 2, 1])), [[], [0], [1], [0, 1]])
        self.same(paper_of(("ringless", [2, 1], [1])), [1, 0])
        self.same(paper_of(("same", [1, 1], [], 2)), ([0, 1], [], []))
        self.same(paper_of(("other", [1], [], 2)), ((2, 1), (1, 2)))
        self.assertIs(paper_of(("round", [3, 2, 1], [0, 1, 0])).__class__, list)
        self.assertIs(paper_of(("unlike", [3, 4, 1, 2])).__class__, list)

    def test_a_lot_that_names_the_order_but_is_not_kept(self):
        claim = ("named", [1, 2, 1], 3, (2, 1, 3))
        self.same([is_paper_of(claim, lot) for lot in ([1, 2], (1, 2), [0, 1], [2, 1], [1], [1, 1, 2])], [True, True, False, False, False, False])
        claim = ("named", [1, 2, 1], 3, (1, 2, 3))
        self.same([is_paper_of(claim, lot) for lot in ([1], [0, 1, 2], [0, 2], [0, 1])], [True, False, False, False])

    def test_of_words_with_unlike_orders_there_is_no_paper_that_they_are_the_same(self):
        for word, other, value in (
            ([1], [2], ([], [], [])), ([1, 1], [2], ([0, 1], [], [])), ([], [1, 2, 1], ([], [], [])), ([1, 3], [3, 2], ([], [], [("past", 0)])),
            ([1, 1], [2, 1, 1], ([0, 1], (1, 2), ())),
        ):
            self.assertIs(is_paper_of(("same", word, other, 4), value), False)
            self.assertIs(is_paper_of(("other", word, other, 4), value), False)
            self.assertIs(is_paper_of(("same", word, word, 4), (value[0], value[0], [])), True)

    def test_no_more_than_a_thousand_elements(self):
        many = [a_word(order) for order in [(2, 4, 1, 3, 6, 8, 5, 7, 9), (4, 3, 2, 1, 6, 5, 8, 7, 9), (3, 1, 2, 6, 4, 5, 9, 7, 8)]]
        for word in many:
            found = paper_of(("unnamed", word, 9, FALLING))
            self.same(found, kept_lots(word, 9))
            self.assertLessEqual(len(found), 1000)

    def test_boards_and_corners_say_the_same(self):
        for order in orders_up_to(4):
            self.assertIs(paper_of(("board", order)) is None, order == (4, 2, 3, 1))
            self.assertEqual(len(board_of(order)), len(order))
