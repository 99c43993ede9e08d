"""The interface: each function stands in its file, with its parameters by their names."""

import importlib
import inspect
import unittest

LISTED = {
    "basics": {"is_integer": "value", "is_count": "value", "is_order": "value"},
    "orders": {
        "wrong_pairs": "order", "level": "order", "code": "order", "order_of": "code", "undone": "order",
        "turned": "order", "one_behind": "order other", "exchanged": "order first second", "falls": "order",
        "blocks": "order", "beside": "order other",
    },
    "words": {
        "word_order": "word many", "is_least": "word many", "a_word": "order", "least_words": "order",
        "spare": "word many", "lessened": "word many", "is_lessened": "word many value",
    },
    "turns": {
        "turns_of": "word many", "turn": "word many value", "lead": "word other many",
        "is_lead": "word other many value",
    },
    "below": {
        "is_below": "order other", "chain": "order other", "is_chain": "order other value", "right_below": "order",
        "right_above": "order",
    },
    "corners": {
        "counted": "order corner", "corner_table": "order", "over": "order other", "mattering": "order",
        "least_with": "size corner many", "is_single": "order", "bearing": "order",
    },
    "lists": {"all_below": "order", "all_above": "order", "all_between": "order other"},
    "within": {"within": "order word many", "is_within": "order word many value"},
    "boards": {
        "is_board": "value", "board_of": "order", "is_laying": "board order", "undone_board": "board",
        "turned_board": "board", "beside_boards": "board other", "blocks_of": "board",
    },
    "layings": {
        "how_many": "board", "all_layings": "board", "first_laying": "board many", "before": "board order",
        "tops": "board",
    },
    "rooks": {
        "rook_row": "board", "hit_row": "board", "outside_row": "board", "is_stair": "board", "stair_product": "board",
    },
    "standing": {
        "stands": "order way", "standings": "order way", "at_places": "order places", "put_in": "order place thing",
        "taken_out": "order place",
    },
    "four": {
        "four_ways": "", "first_way": "order", "is_free": "order", "loose_corner": "order", "is_even": "order",
        "uneven_way": "order",
    },
    "beyond": {
        "beyond": "order", "is_beyond": "order value", "beyond_paper": "order", "is_beyond_paper": "order value",
    },
    "webs": {
        "web": "order", "colour_row": "order", "colourings": "order many", "ring_in": "order signing",
        "is_ring_in": "order signing value",
    },
    "signings": {
        "is_ringless": "order signing", "how_many_signings": "order", "all_signings": "order",
        "last_places": "order signing",
    },
    "lots": {
        "pairs_of": "word many", "is_kept": "word many lot", "named": "word many lot", "kept_lots": "word many",
        "lot_of": "word many order", "unnamed": "word many",
    },
    "levels": {"level_row": "order", "unlike_level": "order", "is_alike": "order"},
    "multipliers": {
        "step_at": "order", "stepped": "order kind", "multipliers": "order", "steps": "order",
        "is_steps": "order value", "row_of": "numbers",
    },
    "ways": {
        "ways_at": "order other", "bottom_ways": "order", "is_uneven_paper": "order value", "uneven_paper": "order",
    },
    "regions": {
        "base": "order", "step_row": "order", "is_same_row": "order", "turned_signing": "order signing tie", "turnable": "order signing",
    },
    "roads": {
        "gap": "order signing target", "road": "order signing target", "is_road": "order signing target value",
    },
    "growing": {
        "growing": "order", "is_growing": "order value", "growths": "order value", "knot_order": "order",
        "is_knot_order": "order value", "knots": "order value",
    },
    "stretches": {"length": "order other", "stretch_row": "order other", "signed": "order other", "betweens": "order other"},
    "chains": {
        "label": "order other", "rising_chain": "order other", "falling_chain": "order other",
        "how_many_chains": "order other",
    },
    "rows": {
        "roads_row": "order other", "falls_row": "order other", "steep_row": "order other", "lusztig": "order other",
        "is_trivial": "order",
    },
    "texts": {"kinds": "", "is_form": "kind value", "written": "kind value"},
    "readers": {"read": "text"},
    "claims": {
        "words": "", "is_claim": "value", "is_true": "claim", "contrary": "claim", "paper_of": "claim",
        "is_paper_of": "claim value",
    },
    "commands": {"is_name": "value", "is_command": "value", "is_deed": "value"},
    "desk": {"tried": "desk action"},
}


class Interface(unittest.TestCase):
    def test_each_function_stands_in_its_file(self):
        for file, functions in LISTED.items():
            module = importlib.import_module("lowerboards." + file)
            for name, parameters in functions.items():
                function = getattr(module, name)
                self.assertTrue(inspect.isfunction(function), name)
                self.assertEqual(function.__module__, module.__name__, name)
                found = inspect.signature(function).parameters.values()
                self.assertEqual([one.name for one in found], parameters.split(), name)
                self.assertTrue(all(one.kind is one.POSITIONAL_OR_KEYWORD for one in found), name)
