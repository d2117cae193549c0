"""The interface: point [26]."""

import inspect
import unittest

from teefloors import errors, floors, layings, mirrored, pieces, signs, ties

# Each function of the interface that has landed, with the names of its arguments in order.
FUNCTIONS = {
    signs: {"words": "text", "text_of": "words", "number_of": "word", "word_of": "number"},
    floors: {
        "is_floor": "thing", "is_cell": "floor thing", "is_block": "floor thing", "is_face": "floor thing",
        "is_tie": "floor thing", "sizes": "floor", "block_of": "floor cell", "cells_of_block": "floor block",
        "dot_of": "floor block", "outer_of": "floor block", "faces": "floor", "ties": "floor",
        "blocks_at": "floor face", "touching": "floor face", "ends": "floor tie", "sides": "floor tie",
        "site": "floor tie",
    },
    pieces: {
        "is_piece": "thing", "cells_of": "piece", "on_floor": "floor piece", "four_of": "floor block",
        "can_lie": "floor piece", "own_block": "floor piece", "left_out": "floor piece", "goes_to": "floor piece",
        "sign_of": "floor piece", "tie_told": "floor piece", "piece_to": "floor block other",
    },
    layings: {
        "is_laying": "floor thing", "first_gap": "floor pieces", "first_overlap": "floor pieces",
        "piece_at": "floor laying cell", "piece_of_block": "floor laying block", "some_laying": "floor",
        "all_layings": "floor", "plain_layings": "many high",
    },
    mirrored: {
        "floor_moved": "floor number", "way_moved": "way number", "cell_moved": "floor cell number",
        "block_moved": "floor block number", "pieces_moved": "floor pieces number", "move_back": "number",
        "moves_put": "one second", "moves_between": "floor laying other", "are_alike": "floor laying other",
        "least_seen": "floor laying", "unlike_layings": "floor",
    },
    ties: {
        "is_lot": "floor thing", "lots": "floor", "lot_of": "floor laying", "other_lot": "floor lot",
        "put_together": "floor lot other", "parts": "floor lot", "part_of": "floor lot block", "lands": "floor lot",
        "joined_blocks": "floor lot block",
    },
}

ERRORS = {
    "NoBlock": (LookupError, "block"), "NoCell": (LookupError, "cell"), "NoFace": (LookupError, "face"),
    "NoTie": (LookupError, "tie"), "NothingDone": (LookupError, None), "BadText": (ValueError, "line"),
    "Broken": (ValueError, "place"), "CanNot": (ValueError, None), "TooMany": (ValueError, None),
    "Unfit": (ValueError, None),
}


class Interface(unittest.TestCase):
    def test_functions(self):
        for module, functions in FUNCTIONS.items():
            for name, arguments in functions.items():
                with self.subTest(module=module.__name__, name=name):
                    function = getattr(module, name)
                    self.assertTrue(inspect.isfunction(function))
                    self.assertEqual(function.__module__, module.__name__)
                    told = inspect.signature(function).parameters.values()
                    self.assertEqual([one.name for one in told], arguments.split())
                    self.assertEqual({one.kind for one in told}, {inspect.Parameter.POSITIONAL_OR_KEYWORD})
                    self.assertEqual({one.default for one in told}, {inspect.Parameter.empty})

    def test_errors(self):
        for name, (base, attribute) in ERRORS.items():
            with self.subTest(name=name):
                kind = getattr(errors, name)
                self.assertEqual(kind.__module__, "teefloors.errors")
                self.assertEqual(kind.__bases__, (base,))
                if attribute is None:
                    self.assertEqual(vars(kind()), {})
                    continue
                self.assertEqual(vars(kind(3)), {attribute: 3})
                self.assertEqual(vars(kind(**{attribute: ("dot", 1, 2)})), {attribute: ("dot", 1, 2)})

    def test_errors_keep_no_list_of_the_caller(self):
        for name, (_, attribute) in ERRORS.items():
            if attribute not in (None, "line", "place"):
                held = [[0, 0], [1, 1]]
                error = getattr(errors, name)(held)
                held[0].append(5)
                self.assertEqual(getattr(error, attribute), [[0, 0], [1, 1]])

    def test_no_errors_beyond(self):
        told = [name for name, value in vars(errors).items() if inspect.isclass(value)]
        self.assertEqual(sorted(told), sorted(ERRORS))


if __name__ == "__main__":
    unittest.main()
