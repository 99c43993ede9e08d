"""[91] and [92]: kinds of values, their written forms, reading them, wrong lines."""

import itertools

from lowerboards.errors import InvalidForm, InvalidKind, InvalidText
from lowerboards.readers import read
from lowerboards.texts import is_form, kinds, written
from tests.helper import ANYTHING, Case, boards_up_to, lists_in, orders_up_to, shown

KINDS = ["order", "word", "board", "signing", "lot", "exchanges", "turns", "corners", "beyond"]
NINE = (1, 2, 3, 4, 5, 6, 7, 8, 9)
EXCHANGES = list(itertools.combinations(range(9), 2))
CORNERS = [(m, k, (m + k) % 10) for m in range(1, 10) for k in range(1, 10)]
# By kind: values, as read tells them, with their written forms.
TOLD = {
    "order": [((3, 1, 2), "order 3 1 2\n"), ((1,), "order 1\n"), (NINE, "order 1 2 3 4 5 6 7 8 9\n")],
    "word": [
        (([1, 3, 2], 4), "word 4 1 3 2\n"), (([], 1), "word 1\n"), (([], 9), "word 9\n"), (([8, 8, 1], 9), "word 9 8 8 1\n"),
        (([1] * 40, 2), "word 2" + " 1" * 40 + "\n"),
    ],
    "board": [
        ([(1, 2), (1, 2)], "board\nplace 1 2\nplace 1 2\n"), ([(1, 1)], "board\nplace 1 1\n"),
        ([(1, 3), (1, 3), (2, 3)], "board\nplace 1 3\nplace 1 3\nplace 2 3\n"), ([(1, 9)] * 9, "board\n" + "place 1 9\n" * 9),
    ],
    "signing": [([], "signing\n"), ([0], "signing 0\n"), ([1, 0, 1], "signing 1 0 1\n"), ([1] * 36, "signing" + " 1" * 36 + "\n")],
    "lot": [
        ([], "lot\n"), ([0], "lot 0\n"), ([39], "lot 39\n"), ([0, 2, 39], "lot 0 2 39\n"),
        (list(range(40)), "lot" + "".join(f" {at}" for at in range(40)) + "\n"),
    ],
    "exchanges": [
        ([], "exchanges\n"), ([(0, 1)], "exchanges\npair 0 1\n"), ([(7, 8), (0, 8), (0, 8)], "exchanges\npair 7 8\npair 0 8\npair 0 8\n"),
        (EXCHANGES * 2 + EXCHANGES[:28], None),
    ],
    "turns": [
        ([], "turns\n"), ([("past", 3)], "turns\npast 3\n"), ([("round", 39), ("past", 0)], "turns\nround 39\npast 0\n"),
        ([("round", 0)] * 100, "turns\n" + "round 0\n" * 100),
    ],
    "corners": [
        ([], "corners\n"), ([(2, 2, 1)], "corners\ncorner 2 2 1\n"), ([(1, 9, 0), (9, 1, 9)], "corners\ncorner 1 9 0\ncorner 9 1 9\n"),
        (CORNERS, None),
    ],
    "beyond": [
        (((4, 2, 3, 1), (0, 1, 2, 3), (3, 4, 1, 2)), "beyond\nway 4 2 3 1\nat 0 1 2 3\nlaying 3 4 1 2\n"),
        (((1,), (8,), (1,)), "beyond\nway 1\nat 8\nlaying 1\n"),
        ((NINE, (0, 1, 2, 3, 4, 5, 6, 7, 8), (2, 1)), "beyond\nway 1 2 3 4 5 6 7 8 9\nat 0 1 2 3 4 5 6 7 8\nlaying 2 1\n"),
    ],
}
# By kind: values that are nearly of it.
NEARLY = {
    "order": [[], [0, 1], [1, 1], [1, 3], list(range(10)), list(range(1, 11)), [1, True], "12", ([2, 1],), {1: 1}],
    "word": [
        [[1], 2], ([1], 1), ([2], 2), ([0], 2), ([1], 10), ([1], 0), ([1], True), ([True], 2), ([1] * 41, 2), ([1],), ([1], 2, 2), (1, 2), (2, [1]),
        ("1", 2), ([1], "2"), ([1], None), (None, 2), ([[1]], 2), ([1], [2]), ([-1], 2), ([], 10 ** 29), ({1: 1}, 2),
    ],
    "board": [
        [], [[1, 1]], [(1, 2)], [(0, 1)], [(1, 2), (1, 1)], [(2, 2), (1, 2)], [(1, 1), (1, 1)], [(1, True)], [(1, 10)] * 10, [(1, 1, 1)], (1, 1),
        [(1, 3), (1, 2), (1, 3)], [(1, 3), (2, 3), (1, 3)],
    ],
    "signing": [[2], [-1], [True], [0, False], ["0"], [None], [0] * 37, "01", b"\x00", {0: 1}, [[0]], 0],
    "lot": [[40], [-1], [0, 0], [1, 0], [2, 1], [True], [False, 1], ["1"], [0, None], list(range(41)), "01", {1: 1}, [[1]], [(1,)], 3],
    "exchanges": [
        [[0, 1]], [(0,)], [(0, 1, 2)], [(1, 0)], [(1, 1)], [(0, 9)], [(-1, 1)], [(False, 1)], [(0, True)], [("0", 1)], [(0, None)], [(0, 1)] * 101,
        (0, 1), "01", {(0, 1): 1}, [(0, 1), None], [((0, 1),)], [0, 1],
    ],
    "turns": [
        [["past", 1]], [("past",)], [("past", 1, 1)], [("other", 1)], [("Past", 1)], [("past ", 1)], [(1, "past")], [("past", 40)], [("past", -1)],
        [("past", True)], [("round", "1")], [("past", None)], [("past", 1)] * 101, ("past", 1), "past", {"past": 1}, [("past", 1), None],
        [(["past"], 1)],
    ],
    "corners": [
        [[1, 1, 1]], [(1, 1)], [(1, 1, 1, 1)], [(0, 1, 1)], [(1, 0, 1)], [(10, 1, 1)], [(1, 10, 1)], [(1, 1, 10)], [(1, 1, -1)], [(True, 1, 1)],
        [(1, True, 1)], [(1, 1, False)], [(1, 1, "1")], [(1, None, 1)], [(1, 1, 1), (1, 1, 1)], [(1, 1, 1), (1, 1, 2)], [(1, 2, 1), (1, 1, 1)],
        [(2, 1, 1), (1, 1, 1)], (1, 1, 1), "111", {(1, 1, 1): 1}, [(1, 1, 1), None], CORNERS[::-1], [(1, 1, 1), (1, 1, 0)],
    ],
    "beyond": [
        [(2, 1), (0, 1), (1, 2)], ((2, 1), (0, 1)), ((2, 1), (0, 1), (1, 2), (1, 2)), ((2, 2), (0, 1), (1, 2)), ((2, 1), (0, 1), (1, 3)),
        ((2, 1), (0,), (1, 2)), ((2, 1), (0, 1, 2), (1, 2)), ((2, 1), (1, 0), (1, 2)), ((2, 1), (1, 1), (1, 2)), ((2, 1), (0, 9), (1, 2)),
        ((2, 1), (-1, 0), (1, 2)), ((2, 1), (0, True), (1, 2)), ((2, True), (0, 1), (1, 2)), ((2, 1), (0, 1), (True, 2)), ((2, 1), (0, 1), ()),
        ((), (), (1,)), ((2, 1), ("0", 1), (1, 2)), ((2, 1), None, (1, 2)), (None, (0, 1), (1, 2)), ((2, 1), (0, 1), None),
        ((2, 1), {0: 0, 1: 1}, (1, 2)),
    ],
}
NO_KINDS = ANYTHING + ["orders", "Order", "order ", " order", "", "turn", ["order"], ("word",), {"lot": 1}, b"order", "beyond\n"]
NO_STRINGS = [value for value in ANYTHING if not isinstance(value, str)] + [["order 1\n"], ("order 1\n",), {"order 1\n": 1}]
OTHER_WORDS = ["0", "1", "2", "3", "4", "9", "10", "39", "40", "01", "00", "-1", "+1", "x", "one", "True", "1.0", "", "1_0", *KINDS, "place",
    "pair", "past", "round",
               "corner", "way", "at", "laying", "100", "1" * 30]
OTHER_LINES = [
    "", " ", "order 1", "order 2 1", "word 2 1", "signing 0", "lot 1", "board", "place 1 1", "place 1 2", "place 2 2", "place 1 9", "place 9 9",
    "exchanges", "pair 0 1",
    "turns", "past 3", "round 0", "corners", "corner 1 1 1", "corner 9 9 9", "beyond", "way 2 1", "at 0 1", "at 0", "laying 2 1", "end",
]


def candidates(lines):
    """The kind, and the values of which the written form could begin with the lines, tried from their numbers."""
    kind = lines[0].split(" ")[0]
    rows = [line.split(" ") for line in lines]
    if kind not in KINDS or not all(word.isdigit() for row in rows for word in row[1:]):
        return kind, []
    numbers = [tuple(int(word) for word in row[1:]) for row in rows]
    if kind in ("order", "signing", "lot"):
        return kind, [numbers[0]]
    if kind == "word":
        return kind, [(numbers[0][1:], numbers[0][0])] if numbers[0] else []
    if kind == "board":
        last = numbers[-1][0] if len(numbers) > 1 and numbers[-1] else 1
        return kind, [[*numbers[1:], *[(last, many)] * (many + 1 - len(numbers))] for many in range(1, 10)]
    if kind == "turns":
        return kind, [[(row[0], *told) for row, told in zip(rows[1:], numbers[1:])]]
    if kind == "beyond":
        way = numbers[1] if len(numbers) > 1 else (1,)
        places = numbers[2] if len(numbers) > 2 else tuple(range(len(way)))
        return kind, [(way, places, numbers[3] if len(numbers) > 3 else (1,))]
    return kind, [numbers[1:]]


def forms_from(lines):
    """Written forms of which one begins with the lines, if any does."""
    kind, values = candidates(lines)
    return [written(kind, value) for value in values if is_form(kind, value)]


def wrong_line(text):
    """The wrong line, by the words of the document; None of a written form."""
    *lines, rest = text.split("\n")
    for at in range(1, len(lines) + 1):
        begun = "".join(line + "\n" for line in lines[:at])
        if not any(form.startswith(begun) for form in forms_from(lines[:at])):
            return at
    if lines and not rest and text in forms_from(lines):
        return None
    return len(lines) + 1


def changes_of(text):
    """The text with one thing otherwise."""
    lines = text.split("\n")[:-1]
    made = [lines[:at] + lines[at + 1:] for at in range(len(lines))]
    made += [lines[:at + 1] + lines[at:] for at in range(len(lines))]
    made += [lines[:at] + [lines[at + 1], lines[at]] + lines[at + 2:] for at in range(len(lines) - 1)]
    made += [lines[:at] + [other] + lines[at:] for at in range(len(lines) + 1) for other in OTHER_LINES]
    for at, line in enumerate(lines):
        words = line.split(" ")
        others = [line + " ", " " + line, line.upper(), line + "  ", line + "\t"]
        for place in range(len(words)):
            others += [" ".join(words[:place] + [other] + words[place + 1:]) for other in OTHER_WORDS]
            others += [" ".join(words[:place] + words[place + 1:]), " ".join(words[:place + 1] + words[place:])]
            others += [" ".join(words[:place] + ["", *words[place:]]), " ".join(words[:place] + ["0" + words[place]] + words[place + 1:])]
            others += [" ".join(words[:place] + words[place:place + 2][::-1] + words[place + 2:])]
        made += [lines[:at] + [other] + lines[at + 1:] for other in others]
    return ["".join(line + "\n" for line in row) for row in made] + [text[:-1], text[1:], text + " ", text + "\n", "\n" + text, text * 2]


class Examples(Case):
    def test_examples(self):
        self.same(
            [written("order", [3, 1, 2]), written("board", [(1, 2), (1, 2)]), written("turns", [("past", 3)]), is_form("lot", [2, 1])],
            ["order 3 1 2\n", "board\nplace 1 2\nplace 1 2\n", "turns\npast 3\n", False],
        )
        self.same(
            [read("word 4 1 3 2\n"), read("corners\ncorner 2 2 1\n"), read("beyond\nway 4 2 3 1\nat 0 1 2 3\nlaying 3 4 1 2\n")],
            [("word", ([1, 3, 2], 4)), ("corners", [(2, 2, 1)]), ("beyond", ((4, 2, 3, 1), (0, 1, 2, 3), (3, 4, 1, 2)))],
        )


def with_lists(kind, value, made):
    """The value with all that may be a list made one, or a tuple."""
    if kind == "word":
        return (made(value[0]), value[1])
    if kind == "beyond":
        return tuple(made(part) for part in value)
    return made(value)


class Forms(Case):
    def test_kinds(self):
        self.tells(KINDS, kinds)
        taken = kinds()
        taken.clear()
        self.same(kinds(), KINDS)

    def test_written_and_read_back(self):
        for kind, told in TOLD.items():
            for value, text in told:
                form = written(kind, value)
                self.assertEqual(form, text or form)
                for made in (list, tuple):
                    given = with_lists(kind, value, made)
                    before = shown(given)
                    self.assertIs(is_form(kind, given), True)
                    self.assertIs(is_form(kind=kind, value=given), True)
                    self.same(written(kind, given), form)
                    self.same(written(kind=kind, value=given), form)
                    self.assertEqual(shown(given), before)
                self.same(read(form), (kind, value))
                self.same(read(text=form), (kind, value))
                self.assertFalse(set(lists_in(held := read(form))) & set(lists_in(read(form))), held)

    def test_all_orders_and_boards_of_few(self):
        for order in orders_up_to(4):
            self.same(read(written("order", order)), ("order", order))
        for board in boards_up_to(4):
            self.same(read(written("board", board)), ("board", board))

    def test_many_lines(self):
        for kind, word in (("exchanges", "pair"), ("corners", "corner")):
            value = TOLD[kind][-1][0]
            lines = written(kind, value).split("\n")
            self.assertEqual(lines[0], kind)
            self.assertEqual(lines[1:], [" ".join([word, *map(str, numbers)]) for numbers in value] + [""])

    def test_values_that_are_not_of_the_kind(self):
        for kind in KINDS:
            of_kind = [[], ()] if kind in ("signing", "lot", "exchanges", "turns", "corners") else []
            of_kind += [((1, 2),)] if kind == "exchanges" else []
            wrong = NEARLY[kind] + [value for value in ANYTHING if shown(value) not in map(shown, of_kind)]
            # Values of these kinds are of no other one.
            wrong += [value for other in ("word", "turns", "corners", "beyond") if other != kind for value, _ in TOLD[other][1:]]
            for value in wrong:
                with self.subTest(kind=kind, value=shown(value)):
                    self.assertIs(is_form(kind, value), False)
                    self.fails(InvalidForm, {"value": value}, written, kind, value)
                    self.fails(InvalidForm, {"value": value}, written, kind=kind, value=value)

    def test_no_kinds(self):
        for function in (is_form, written):
            for value in (None, [1], "order"):
                self.wrong(function, {"kind": "order", "value": value}, [("kind", InvalidKind, NO_KINDS)])
        self.wrong(written, {"kind": "order", "value": [1]}, [("kind", InvalidKind, NO_KINDS), ("value", InvalidForm, NEARLY["order"])])


class Wrong(Case):
    def right(self, text):
        """Reading tells the wrong line, or what has this written form."""
        line = wrong_line(text)
        if line is None:
            kind, value = read(text)
            self.assertEqual(written(kind, value), text)
        else:
            self.fails(InvalidText, {"line": line}, read, text)

    def test_one_thing_otherwise(self):
        for kind, told in TOLD.items():
            for value, _ in told:
                text = written(kind, value)
                made = changes_of(text)
                for other in made[::1 if len(made) < 2000 else 97]:
                    self.right(other)

    def test_two_texts_joined(self):
        texts = [written(kind, value) for kind, told in TOLD.items() for value, _ in told[:3]]
        for one, other in itertools.product(texts, texts):
            self.right(one + other)
            self.right(one[:-1] + other)

    def test_given_lines(self):
        given = [
            ("", 1), ("\n", 1), ("x", 1), ("order", 1), ("order\n", 1), ("order 1", 1), ("order 1 3\n", 1), ("order 1\n\n", 2), ("order 1\nx", 2),
            ("order 1 ", 1),
            ("word\n", 1), ("word 3 3\n", 1), ("word 3 2", 1), ("word 10\n", 1), ("word 2" + " 1" * 41 + "\n", 1),
            ("board\n", 2), ("board", 1), ("board\nplace 1 2\n", 3), ("board\nplace 1 9\n", 3), ("board\nplace 1 10\n", 2), ("board\nplace 2 2\n", 2),
            ("board\nplace 1 3\nplace 1 2\n", 3), ("board\nplace 1 2\nplace 1 1\n", 3), ("board\nplace 1 1\nplace 1 1\n", 3),
            ("board\nplace 1 1\nplace 3 3\n", 3),
            ("board\n" + "place 1 9\n" * 10, 11), ("board\n" + "place 1 9\n" * 8, 10), ("board\nplace 1 2\nplace 1 2\nplace 2 3\nplace 1 4\n", 5),
            ("board\nplace 1 3\nplace 2 3\nplace 3", 4), ("signing" + " 0" * 37 + "\n", 1), ("signing 2\n", 1), ("signing ", 1), ("lot 1 1\n", 1),
            ("lot 40\n", 1),
            ("lot 2 1\n", 1), ("exchanges\npair 1 0\n", 2), ("exchanges\npair 0 9\n", 2), ("exchanges\n" + "pair 0 1\n" * 101, 102),
            ("exchanges\npair 0 1", 2),
            ("turns\n" + "past 1\n" * 101, 102), ("turns\npast 40\n", 2), ("turns\nover 1\n", 2), ("corners\ncorner 1 1 1\ncorner 1 1 2\n", 3),
            ("corners\ncorner 2 1 1\ncorner 1 9 1\n", 3), ("corners\ncorner 1 1 10\n", 2), ("corners\ncorner 0 1 1\n", 2), ("beyond\n", 2),
            ("beyond\nway 2 1\n", 3),
            ("beyond\nway 2 1\nat 0 1\n", 4), ("beyond\nway 2 1\nat 0 1 2\n", 3), ("beyond\nway 2 1\nat 1 0\n", 3), ("beyond\nway 2 2\n", 2),
            ("beyond\nat 0 1\n", 2),
            ("beyond\nway 2 1\nat 0 1\nlaying 1 3\n", 4), ("beyond\nway 2 1\nat 0 1\nlaying 1 2\nlaying 1 2\n", 5),
            ("beyond\nway 2 1\nlaying 1 2\n", 3),
            ("order 1\n" * 2, 2), ("lot 01\n", 1), ("lot  1\n", 1), ("lot 1 \n", 1), (" lot 1\n", 1), ("Lot 1\n", 1), ("lot -1\n", 1),
            ("lot " + "1" * 4000 + "\n", 1),
        ]
        for text, line in given:
            self.fails(InvalidText, {"line": line}, read, text)
            self.fails(InvalidText, {"line": line}, read, text=text)
            self.assertEqual(wrong_line(text), line, text)

    def test_no_strings(self):
        for value in NO_STRINGS:
            self.fails(InvalidText, {"line": 0}, read, value)
            self.fails(InvalidText, {"line": 0}, read, text=value)
