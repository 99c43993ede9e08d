"""[95], [97] and [98]: which strings are names, commands, deeds."""

import re

from lowerboards.commands import is_command, is_deed, is_name
from tests.helper import ANYTHING, Case

NAME = "[a-z][a-z0-9]{0,7}"
COUNT = "(0|[1-9][0-9]{0,5})"
THINGS = "[1-9]{1,9}"
SIGNS = "(-|[01]{1,36})"
LETTERS = "(-|[1-8]{1,40})"
DEEDS = [
    f"order {NAME} {THINGS}", f"word {NAME} [1-9] {LETTERS}", f"copy {NAME} {NAME}", f"(undone|turned|made) {NAME} {NAME}",
    f"(beside|behind) {NAME} {NAME} {NAME}",
    f"(swap|put) {NAME} {COUNT} {COUNT}", f"(take|add|strike) {NAME} {COUNT}", f"turn {NAME} (past|round) {COUNT}", f"(drop|forget) {NAME}",
    f"claim {NAME} (below|over|named|unnamed|same|other) {NAME} {NAME}", f"claim {NAME} (board|beyond|alike|unlike) {NAME}",
    f"claim {NAME} (ringless|round) {NAME} {SIGNS}",
]
QUESTIONS = [
    "(undo|redo|states|names)", f"(state|claimed|shown|level|code|falls|layings|signings|board|free|even|least|way|multipliers) {NAME}",
    f"corner {NAME} {NAME}",
]
RIGHT_DEEDS = [
    "order f 3142", "order f 1", "order abcdefgh 987654321", "order a1234567 21", "order order 12", "word w 4 2132", "word w 1 -", "word w 9 -",
    "word w 9 8",
    "word w 2 " + "1" * 40, "word w 9 12345678", "copy g f", "copy f f", "undone g f", "turned g f", "beside h f g", "behind h f g", "made f w",
    "swap f 0 1",
    "swap f 999999 0", "swap f 0 0", "put f 0 1", "put f 9 10", "take f 0", "take f 123456", "add w 1", "add w 0", "strike w 0", "strike w 39",
    "turn w past 0",
    "turn w round 100", "drop f", "claim x below f g", "claim x over f g", "claim x board f", "claim x beyond f", "claim x alike f",
    "claim x unlike f",
    "claim x ringless f 010", "claim x round f -", "claim x ringless f " + "01" * 18, "claim x named w f", "claim x unnamed w f",
    "claim x same w v", "claim x other w w",
    "claim below below below below", "forget x",
]
RIGHT_QUESTIONS = [
    "undo", "redo", "state x", "states", "claimed x", "names", "shown f", "level f", "code f", "falls f", "layings f", "signings f", "board f",
    "free f", "even f",
    "least w", "way f", "corner f g", "multipliers f",
]
WRONG = [
    "", " ", "-", "x", "orders", "Order f 12", "order", "order f", "order f -", "order f 0", "order f 11", "order f 13", "order f 1234567891",
    "order f 3143", "order f 12 ",
    "order f 1 2", "order F 12", "order 1f 12", "order abcdefghi 12", "order f_ 12", "order  f 12", " order f 12", "order f\n12", "order f 12\n",
    "order - 12",
    "word w", "word w 4", "word w 0 -", "word w 10 1", "word w 4 4", "word w 4 0", "word w 1 1", "word w 4 ", "word w 04 1", "word w 2 " + "1" * 41,
    "word w - 1",
    "word w 4 1-", "word w 4 --", "word w 4 1 2", "word w -1 1", "word w 9 9", "copy g", "copy g f h", "copy g 1", "undone f", "behind h f",
    "beside h f g g",
    "made f", "swap f 0", "swap f 0 1 2", "swap f -1 0", "swap f 00 1", "swap f 01 1", "swap f 1000000 1", "swap f 0 1234567", "swap f - 1",
    "swap f +1 2", "put f 0 01",
    "take f", "take f x", "take f 1.0", "add w", "add w -", "strike w 1 2", "turn w 0", "turn w past", "turn w past -", "turn w other 0",
    "turn w Past 0", "turn w round 00",
    "drop", "drop f g", "drop 1", "claim", "claim x", "claim x below", "claim x below f", "claim x below f g h", "claim x over f",
    "claim x board f g", "claim x board",
    "claim x even f", "claim X board f", "claim x Board f", "claim x ringless f", "claim x ringless f 2", "claim x ringless f 01-",
    "claim x ringless f 0.1", "claim x round f 0/", "claim x round f 1-0", "word w 4 1.", "word w 4 1/", "word w x -",
    "claim x ringless f " + "0" * 37,
    "claim x round f 0 1", "claim x named w", "claim x named w 4 f", "claim x same w v 4", "claim x below f -", "claim - board f", "claim x true f",
    "claim x  board f",
    "forget", "forget x y", "forget 1", "undo 1", "undo ", " undo", "Undo", "redo x", "state", "state x y", "states x", "states ", "claimed",
    "names f", "shown", "level",
    "level f g", "level F", "corner f", "corner f g h", "multipliers", "multiplier f", "free f ", "even  f", "least", "way f 4231", "board f 1",
    "code 312", "attach x", "len",
]


def fits_one(value, forms):
    """Whether the whole string is of one of the forms."""
    return any(re.fullmatch(form, value) for form in forms)


def is_right(value, forms):
    """Whether the string is a command of these forms, by the words of the document."""
    if not isinstance(value, str) or not fits_one(value, forms):
        return False
    told = value.split(" ")
    if told[0] == "order":
        return sorted(told[2]) == [str(thing) for thing in range(1, len(told[2]) + 1)]
    if told[0] == "word" and told[3] != "-":
        return all(int(letter) < int(told[2]) for letter in told[3])
    return True


def changes_of(command):
    """The command with one thing otherwise."""
    parts = command.split(" ")
    others = ["-", "0", "1", "00", "01", "10", "9", "x", "X", "1x", "abcdefghi", "123456", "1234567", "312", "313", "", "below", "past", "4231",
        "8" * 40, "8" * 41, "1" * 36, "1" * 37]
    told = [command + " ", " " + command, command + " x", command + " 1", command.upper(), command.title(), command + "\n", command[:-1],
        command + "0", command + "-", command * 2]
    for at in range(len(parts)):
        told += [" ".join(parts[:at] + [other] + parts[at + 1:]) for other in others]
        told += [" ".join(parts[:at] + [other] + parts[at:]) for other in others]
        told += [" ".join(parts[:at] + parts[at + 1:]), " ".join(parts[:at] + [parts[at].upper()] + parts[at + 1:])]
        told += [" ".join(parts[:at] + ["0" + parts[at]] + parts[at + 1:]), "\t".join([" ".join(parts[:at]), " ".join(parts[at:])])]
        told += [" ".join(parts[:at] + parts[at:at + 2][::-1] + parts[at + 2:])]
    return told


class Names(Case):
    def test_is_name(self):
        right = ["a", "z", "f1", "abcdefgh", "a1234567", "order", "undo", "zz9", "x0"]
        wrong = [value for value in ANYTHING if value != "past"] + [
            "abcdefghi", "1", "1a", "A", "aB", "a_", "a-b", "a b", " a", "a ", "a\n", "-", "", ["a"], ("a",), {"a": 1}, b"a", "0", "a.b", "`", "{",
            "a/", "a:",
        ]
        self.asks(right + ["past"], wrong, is_name)


class Commands(Case):
    def test_given(self):
        self.same(
            [
                is_command("order f 3142"), is_command("order f 3143"), is_command("word w 4 2132"), is_command("claim x over f"), is_deed("level f"),
                is_deed("strike w 0"),
            ],
            [True, False, True, False, False, True],
        )
        self.asks(RIGHT_DEEDS + RIGHT_QUESTIONS, WRONG + ANYTHING, is_command)
        self.asks(RIGHT_DEEDS, RIGHT_QUESTIONS + WRONG + ANYTHING, is_deed)

    def test_the_forms_tell_the_same(self):
        for value in RIGHT_DEEDS + RIGHT_QUESTIONS + WRONG + ANYTHING:
            self.assertIs(is_right(value, DEEDS + QUESTIONS), value in RIGHT_DEEDS + RIGHT_QUESTIONS, value)

    def test_one_thing_otherwise(self):
        for command in RIGHT_DEEDS + RIGHT_QUESTIONS:
            for other in changes_of(command):
                self.assertIs(is_command(other), is_right(other, DEEDS + QUESTIONS), other)
                self.assertIs(is_deed(other), is_right(other, DEEDS), other)

    def test_no_strings(self):
        for value in ([], ["undo"], ("undo",), b"undo", {"undo": 1}, {"undo"}, 0, None, True):
            self.assertIs(is_command(value), False)
            self.assertIs(is_deed(value), False)
