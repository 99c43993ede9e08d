"""The error classes: their one base, their attributes, made with any values."""

import inspect

from lowerboards import errors
from tests.helper import ANYTHING, Case

FAMILIES = {"ShelfError": ValueError, "MissingError": LookupError, "StateError": RuntimeError, "LimitError": ArithmeticError}
VALUES = (
    "InvalidBoard InvalidCorner InvalidMany InvalidOrder InvalidPlace InvalidSigning InvalidThing InvalidWord InvalidClaim "
    "InvalidCode InvalidCommand InvalidForm InvalidGrowing InvalidKind InvalidLot InvalidPaper InvalidPlaces "
    "InvalidPosition InvalidRow InvalidTie InvalidTurn"
).split()
BARE = (
    "UnlikeSizes NoStep NotBelow NotLaying NotOne NotRingless NotStair NotTwo NothingToRedo NothingToUndo TooFew "
    "UnlikeOrders"
).split()
LISTED = {
    **{name: ("ShelfError", ["value"]) for name in VALUES},
    "InvalidLines": ("ShelfError", ["position"]),
    "InvalidText": ("ShelfError", ["line"]),
    "UnknownLabel": ("MissingError", ["value"]),
    "UnknownName": ("MissingError", ["value"]),
    **{name: ("StateError", []) for name in BARE},
    "CommandFailed": ("StateError", ["position"]),
    "LabelTaken": ("StateError", ["label"]),
    "NameTaken": ("StateError", ["name"]),
    "WrongKind": ("StateError", ["name"]),
    "TooMany": ("LimitError", ["what", "limit"]),
}


class Errors(Case):
    def test_families(self):
        for name, base in FAMILIES.items():
            self.assertEqual(getattr(errors, name).__bases__, (base,))

    def test_each_has_its_one_base(self):
        for name, (base, _) in LISTED.items():
            self.assertEqual(getattr(errors, name).__bases__, (getattr(errors, base),), name)
            self.assertEqual(getattr(errors, name).__module__, "lowerboards.errors")

    def test_there_are_no_others(self):
        found = [name for name, _ in inspect.getmembers(errors, inspect.isclass)]
        self.assertEqual(sorted(found), sorted([*FAMILIES, *LISTED]))

    def test_made_with_any_values(self):
        for name, (_, attributes) in LISTED.items():
            made = getattr(errors, name)
            for value in ANYTHING + [[1, [2, {}]], made]:
                given = {attribute: value for attribute in attributes}
                self.same(vars(made(*given.values())), given)
                self.same(vars(made(**given)), given)

    def test_what_and_limit_are_told_apart(self):
        self.same(vars(errors.TooMany("words", 200)), {"what": "words", "limit": 200})

    def test_caught_by_its_family(self):
        for name, (base, attributes) in LISTED.items():
            made = getattr(errors, name)
            with self.assertRaises(FAMILIES[base]) as held:
                raise made(*[[1]] * len(attributes))
            self.assertIsInstance(str(held.exception), str)
