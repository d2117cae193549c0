"""The interface: point [26]."""

import inspect
import pathlib
import unittest

from teefloors import (
    counts, desk, errors, fewest, finished, floors, goings, judge, lattice, layings, middles, mirrored, numbered, pieces,
    rises, rounds, seams, signs, squares, sums, texts, ties, told,
)

# Each function of the interface, with the names of its arguments in order.
FUNCTIONS = {
    signs: {"words": "text", "text_of": "words", "number_of": "word", "word_of": "number"},
    floors: {
        "is_floor": "thing", "is_cell": "floor thing", "is_block": "floor thing", "is_face": "floor thing",
        "is_tie": "floor thing", "sizes": "floor", "block_of": "floor cell", "cells_of_block": "floor block",
        "dot_of": "floor block", "outer_of": "floor block", "faces": "floor", "ties": "floor",
        "blocks_at": "floor face", "touching": "floor face", "ends": "floor tie", "sides": "floor tie",
        "site": "floor tie",
    },
    pieces: {
        "is_piece": "thing", "cells_of": "piece", "on_floor": "floor piece", "four_of": "floor block",
        "can_lie": "floor piece", "own_block": "floor piece", "left_out": "floor piece", "goes_to": "floor piece",
        "sign_of": "floor piece", "tie_told": "floor piece", "piece_to": "floor block other",
    },
    layings: {
        "is_laying": "floor thing", "first_gap": "floor pieces", "first_overlap": "floor pieces",
        "piece_at": "floor laying cell", "piece_of_block": "floor laying block", "some_laying": "floor",
        "all_layings": "floor", "plain_layings": "many high",
    },
    mirrored: {
        "floor_moved": "floor number", "way_moved": "way number", "cell_moved": "floor cell number",
        "block_moved": "floor block number", "pieces_moved": "floor pieces number", "move_back": "number",
        "moves_put": "one second", "moves_between": "floor laying other", "are_alike": "floor laying other",
        "least_seen": "floor laying", "unlike_layings": "floor",
    },
    ties: {
        "is_lot": "floor thing", "lots": "floor", "lot_of": "floor laying", "other_lot": "floor lot",
        "put_together": "floor lot other", "parts": "floor lot", "part_of": "floor lot block", "lands": "floor lot",
        "joined_blocks": "floor lot block",
    },
    rounds: {
        "rounds": "floor lot", "round_at": "floor lot block", "how_many_rounds": "floor lot",
        "next_left": "floor lot block", "next_right": "floor lot block", "round_walk": "floor lot block",
        "rings_in": "floor lot", "rounds_by_lands": "floor lot", "rounds_tie_by_tie": "floor lot",
        "tie_turned": "floor lot tie", "round_area": "floor lot number", "dots_within": "floor lot number",
    },
    rises: {
        "is_rise": "floor thing", "is_book": "floor rise thing", "rise_of": "floor laying", "book_of": "floor laying",
        "height": "floor rise face", "signs_of": "floor rise", "flat_ties": "floor rise", "tied_ties": "floor rise",
        "laying_of_rise": "floor rise book", "layings_of": "floor rise", "many_of": "floor rise",
    },
    lattice: {
        "least_rise": "floor", "greatest_rise": "floor", "steps_to": "floor face", "lower": "floor rise other",
        "upper": "floor rise other", "is_below": "floor rise other", "can_rise": "floor rise", "can_fall": "floor rise",
        "raised": "floor rise face", "lowered": "floor rise face", "sum_of": "floor rise", "all_rises": "floor",
        "how_many_rises": "floor",
    },
    goings: {
        "are_goings": "floor lot thing", "goings_of": "floor laying", "laying_of_goings": "floor lot goings",
        "all_with_lot": "floor lot", "way_gone": "floor laying block", "round_turned": "floor laying block",
        "all_turned": "floor laying", "rounds_about": "floor lot face", "outer_rounds": "floor lot",
        "turns_of": "floor lot goings", "height_by_rounds": "floor laying face",
    },
    sums: {
        "sum_by_lots": "floor", "lot_table": "floor", "lots_with": "floor number", "sum_by_rises": "floor",
        "rise_table": "floor", "flattest": "floor", "sum_by_ties": "floor", "even_chance": "floor lot",
    },
    squares: {
        "is_deed": "floor laying thing", "deeds": "floor laying", "done": "floor laying deed",
        "laid_anew": "floor laying deed", "behind": "floor laying plan", "layings_along": "floor laying plan",
        "is_done_by": "floor laying thing", "undone": "floor plan", "deed_between": "floor laying other",
    },
    fewest: {
        "fewest": "floor laying other", "shares": "floor laying other", "first_faces": "floor laying other",
        "plan": "floor laying other", "is_plan": "floor laying other thing", "many_squares": "floor plan",
        "farthest": "floor",
    },
    told: {
        "is_told": "floor thing", "signs_told": "floor told", "ties_told": "floor told", "both_ways": "floor told",
        "bound": "floor told face other", "ring_bound": "floor told ring", "falling_ring": "floor told",
        "is_falling_ring": "floor told thing",
    },
    finished: {
        "can_finish": "floor told", "finished": "floor told", "why_not": "floor told", "is_why_not": "floor told thing",
        "least_finished": "floor told", "greatest_finished": "floor told", "height_span": "floor told face",
        "can_lie_beside": "floor told piece", "sure_pieces": "floor told", "sure_ties": "floor told",
    },
    counts: {
        "many_layings": "floor told", "many_rises": "floor told", "share_of": "floor told piece",
        "block_shares": "floor told block", "many_above": "floor rise", "height_counts": "floor face",
        "flat_counts": "floor",
    },
    numbered: {
        "block_row": "floor laying", "how_many_begin": "floor pieces", "next_pieces": "floor pieces",
        "laying_number": "floor laying", "laying_at": "floor number", "first_laying": "floor", "last_laying": "floor",
        "next_laying": "floor laying", "laying_ahead": "floor laying", "layings_from": "floor number many",
    },
    texts: {
        "picture": "floor laying", "read_picture": "text", "is_sheet": "thing", "sheet_text": "sheet",
        "read_sheet": "text",
    },
    middles: {
        "middle_rise": "floor layings", "middle": "floor layings", "is_middle": "floor layings thing",
        "kept_by_all": "floor layings", "sum_to": "floor laying layings", "is_between": "floor laying other thing",
        "rises_between": "floor laying other",
    },
    seams: {
        "is_line": "floor thing", "ties_across": "floor line", "faces_on": "floor line",
        "pieces_across": "floor laying line", "seams": "floor laying", "parted_at": "floor laying line",
        "put_beside": "floor laying other_floor other way", "nearest_parted": "floor laying line",
        "squares_to_part": "floor laying line",
    },
    judge: {
        "is_demand": "thing", "is_so": "demand", "paper_against": "demand", "is_paper_against": "demand thing",
        "reason_for": "demand", "is_reason_for": "demand thing", "first_fallen": "demands",
    },
}

# The one class of the interface that is no error, with its methods.
DESK = {"__init__": "floor laying", "say": "text", "floor": "", "laying": "", "first": "", "undo": "", "redo": "",
        "twin": "", "__eq__": "other"}

ERRORS = {
    "NoBlock": (LookupError, "block"), "NoCell": (LookupError, "cell"), "NoFace": (LookupError, "face"),
    "NoTie": (LookupError, "tie"), "NothingDone": (LookupError, None), "BadText": (ValueError, "line"),
    "Broken": (ValueError, "place"), "CanNot": (ValueError, None), "TooMany": (ValueError, None),
    "Unfit": (ValueError, None),
}


class Interface(unittest.TestCase):
    def test_functions(self):
        for module, functions in FUNCTIONS.items():
            for name, arguments in functions.items():
                with self.subTest(module=module.__name__, name=name):
                    function = getattr(module, name)
                    self.assertTrue(inspect.isfunction(function))
                    self.assertEqual(function.__module__, module.__name__)
                    given = inspect.signature(function).parameters.values()
                    self.assertEqual([one.name for one in given], arguments.split())
                    self.assertEqual({one.kind for one in given}, {inspect.Parameter.POSITIONAL_OR_KEYWORD})
                    self.assertEqual({one.default for one in given}, {inspect.Parameter.empty})

    def test_each_name_of_the_document(self):
        """The names of each file, as the last section of the document lists them."""
        text = (pathlib.Path(__file__).resolve().parent.parent.parent / "shared" / "DOC.md")
        if not text.exists():
            self.skipTest("the document is not here")
        listed = text.read_text(encoding="utf-8").split("**[26]**")[1]
        for module, functions in FUNCTIONS.items():
            path = module.__name__.replace(".", "/") + ".py: "
            names = listed.split(path)[1].split(" ([")[0].split(", ")
            self.assertEqual(names, list(functions), path)

    def test_desk(self):
        self.assertEqual((desk.Desk.__module__, desk.Desk.__bases__), ("teefloors.desk", (object,)))
        for name, arguments in DESK.items():
            given = list(inspect.signature(vars(desk.Desk)[name]).parameters)
            self.assertEqual(given, ["self", *arguments.split()])

    def test_errors(self):
        for name, (base, attribute) in ERRORS.items():
            with self.subTest(name=name):
                kind = getattr(errors, name)
                self.assertEqual(kind.__module__, "teefloors.errors")
                self.assertEqual(kind.__bases__, (base,))
                if attribute is None:
                    self.assertEqual(vars(kind()), {})
                    continue
                self.assertEqual(vars(kind(3)), {attribute: 3})
                self.assertEqual(vars(kind(**{attribute: ("dot", 1, 2)})), {attribute: ("dot", 1, 2)})

    def test_errors_keep_no_list_of_the_caller(self):
        for name, (_, attribute) in ERRORS.items():
            if attribute not in (None, "line", "place"):
                held = [[0, 0], [1, 1]]
                error = getattr(errors, name)(held)
                held[0].append(5)
                self.assertEqual(getattr(error, attribute), [[0, 0], [1, 1]])

    def test_no_errors_beyond(self):
        found = [name for name, value in vars(errors).items() if inspect.isclass(value)]
        self.assertEqual(sorted(found), sorted(ERRORS))


if __name__ == "__main__":
    unittest.main()
