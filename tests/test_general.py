"""What holds for every function: point [2]."""

import copy
import inspect
import unittest

from teefloors import counts, fewest, finished, floors, goings, judge, lattice, layings, middles, mirrored, numbered
from teefloors import pieces, rises, rounds, seams, signs, squares, sums, texts, ties, told as told_pieces
from tests.helpers import caught, listed, told_error
from tests.test_interface import FUNCTIONS

ONE = ((0, 1, 0), (1, 3, 3), (2, 0, 1), (3, 2, 2))
TWO = ((0, 2, 0), (1, 0, 1), (2, 3, 3), (3, 1, 2))
TIE = ((0, 0), (1, 0))
RISE = (((1, 1), (1, 1)), ((0,),))
HILL = (((1, 1), (1, 1)), ((2,),))
SQUARE, PAIR = ("square", ("dot", 0, 0)), ("pair", TIE)
BESIDE = ((0, 1, 0), (1, 3, 3), (2, 0, 1), (3, 2, 2), (4, 1, 0), (5, 3, 3), (6, 0, 1), (7, 2, 2))
TWICE = ((0, 1, 0), (1, 0, 1))
BOTH = ((3, 2, 1), (3, 2, 2))
ROW = ((0, 1, 0), (1, 3, 3), (2, 0, 1), (3, 2, 2), (4, 1, 0), (5, 3, 3), (6, 0, 1), (7, 2, 2))
KNOT = ((0, 1, 0), (1, 3, 3), (2, 0, 1), (3, 2, 1), (4, 1, 3), (5, 3, 3), (6, 0, 1), (7, 2, 2))
MANY, FEW, ALL = ("many", (1, 1), (), 2), ("many", (1, 1), (), 1), ("many", (3, 3), (), 5)
APART = ("fewest", (1, 1), ONE, TWO, 0)

# For each function calls that return, and calls that raise with a value in the error.
CALLS = {
    signs: {
        "words": [("a b # c\n-1",)], "text_of": [([("a", 0), ("b", 2)],), ([],)], "number_of": [("12",), ("x",)],
        "word_of": [(-3,)],
    },
    floors: {
        "is_floor": [((1, 2),), (7,)], "is_cell": [((1, 2), (0, 0)), ((1, 2), None)],
        "is_block": [((1, 2), (0, 0))], "is_face": [((1, 2), ("dot", 0, 0))], "is_tie": [((2, 2), TIE)],
        "sizes": [((2, 3),)], "block_of": [((2, 3), (5, 6)), ((2, 3), (50, 6))],
        "cells_of_block": [((2, 3), (3, 2)), ((2, 3), (30, 2))], "dot_of": [((2, 3), (3, 2)), ((2, 3), (30, 2))],
        "outer_of": [((2, 3), (2, 1)), ((2, 3), (30, 2))], "faces": [((2, 3),)], "ties": [((2, 3),)],
        "blocks_at": [((2, 3), ("inner", 0, 1)), ((2, 3), ("rim",)), ((2, 3), ("inner", 1, 1))],
        "touching": [((2, 3), ("dot", 0, 1)), ((2, 3), ("inner", 1, 1))],
        "ends": [((2, 3), TIE), ((1, 3), TIE)], "sides": [((2, 3), TIE), ((1, 3), TIE)],
        "site": [((2, 3), TIE), ((1, 3), TIE)],
    },
    pieces: {
        "is_piece": [((0, 0, 1),)], "cells_of": [((0, 0, 1),)], "on_floor": [((1, 1), (1, 1, 1))],
        "four_of": [((2, 1), (1, 1)), ((2, 1), (4, 0))], "can_lie": [((2, 1), (3, 2, 1)), ((2, 1), (0, 0, 0))],
        "own_block": [((2, 1), (3, 2, 1)), ((2, 1), (0, 0, 0))], "left_out": [((2, 1), (3, 2, 1))],
        "goes_to": [((2, 1), (3, 2, 1))], "sign_of": [((2, 1), (3, 2, 1))], "tie_told": [((2, 1), (3, 2, 1))],
        "piece_to": [((2, 1), (1, 1), (2, 1)), ((2, 1), (1, 1), (4, 1)), ((2, 1), (1, 1), (3, 1))],
    },
    layings: {
        "is_laying": [((1, 1), ONE), ((1, 1), ONE[:3])], "first_gap": [((1, 1), ONE[1:]), ((1, 1), ())],
        "first_overlap": [((1, 1), ONE + TWO), ((1, 1), ONE)],
        "piece_at": [((1, 1), ONE, (3, 3)), ((1, 1), ONE, (4, 3))],
        "piece_of_block": [((1, 1), ONE, (1, 1)), ((1, 1), ONE, (2, 1))], "some_laying": [((2, 3),)],
        "all_layings": [((1, 2),), ((3, 3),)], "plain_layings": [(8, 4), (6, 6)],
    },
    mirrored: {
        "floor_moved": [((1, 2), 3)], "way_moved": [(1, 5)], "cell_moved": [((1, 2), (1, 0), 3), ((1, 2), (8, 0), 3)],
        "block_moved": [((1, 2), (1, 0), 3), ((1, 2), (8, 0), 3)], "pieces_moved": [((1, 1), ONE, 6), ((1, 1), (), 0)],
        "move_back": [(3,)], "moves_put": [(3, 6)], "moves_between": [((1, 1), ONE, TWO)],
        "are_alike": [((1, 1), ONE, TWO)], "least_seen": [((1, 1), TWO)], "unlike_layings": [((1, 2),), ((3, 3),)],
    },
    ties: {
        "is_lot": [((2, 1), (TIE,)), ((2, 1), [TIE])], "lots": [((2, 2),), ((4, 4),)], "lot_of": [((1, 1), ONE)],
        "other_lot": [((2, 2), (TIE,))], "put_together": [((2, 2), (TIE,), ())], "parts": [((2, 2), (TIE,))],
        "part_of": [((2, 2), (TIE,), (0, 0)), ((2, 2), (TIE,), (4, 0))], "lands": [((2, 2), (TIE,))],
        "joined_blocks": [((2, 2), (TIE,), (1, 0)), ((2, 2), (TIE,), (4, 0))],
    },
    rounds: {
        "rounds": [((2, 2), (TIE,))], "round_at": [((2, 2), (TIE,), (3, 3)), ((2, 2), (TIE,), (4, 0))],
        "how_many_rounds": [((2, 2), (TIE,))], "next_left": [((2, 2), (TIE,), (1, 0)), ((2, 2), (TIE,), (4, 0))],
        "next_right": [((2, 2), (TIE,), (1, 0)), ((2, 2), (TIE,), (4, 0))],
        "round_walk": [((2, 2), (TIE,), (1, 0)), ((2, 2), (TIE,), (4, 0))], "rings_in": [((2, 2), (TIE,))],
        "rounds_by_lands": [((2, 2), (TIE,))], "rounds_tie_by_tie": [((2, 2), (TIE,))],
        "tie_turned": [((2, 2), (TIE,), TIE), ((2, 1), (TIE,), ((1, 0), (1, 1)))],
        "round_area": [((2, 2), (TIE,), 2), ((2, 2), (TIE,), 3)], "dots_within": [((2, 2), (TIE,), 0)],
    },
    rises: {
        "is_rise": [((2, 2), RISE), ((2, 1), RISE)], "is_book": [((2, 2), RISE, (TIE,)), ((2, 2), HILL, (TIE,))],
        "rise_of": [((1, 1), ONE)], "book_of": [((1, 1), TWO)],
        "height": [((2, 2), HILL, ("inner", 0, 0)), ((2, 2), HILL, ("inner", 0, 1))], "signs_of": [((2, 2), HILL)],
        "flat_ties": [((2, 2), RISE)], "tied_ties": [((2, 2), HILL)],
        "laying_of_rise": [((2, 2), RISE, (TIE,)), ((2, 2), HILL, (TIE,))],
        "layings_of": [((2, 2), RISE), ((1, 12), (((1,) * 12,), ()))], "many_of": [((2, 2), RISE)],
    },
    lattice: {
        "least_rise": [((3, 2),)], "greatest_rise": [((3, 2),)],
        "steps_to": [((3, 2), ("dot", 1, 1)), ((3, 2), ("dot", 1, 2))], "lower": [((2, 2), RISE, HILL)],
        "upper": [((2, 2), RISE, HILL)], "is_below": [((2, 2), RISE, HILL)], "can_rise": [((2, 2), RISE)],
        "can_fall": [((2, 2), RISE)], "raised": [((2, 2), RISE, ("inner", 0, 0)), ((2, 2), HILL, ("inner", 0, 0))],
        "lowered": [((2, 2), HILL, ("inner", 0, 0)), ((2, 2), HILL, ("inner", 0, 1))], "sum_of": [((2, 2), RISE)],
        "all_rises": [((2, 2),), ((3, 4),)], "how_many_rises": [((2, 3),), ((5, 5),)],
    },
    goings: {
        "are_goings": [((2, 1), (TIE,), (1,)), ((2, 1), (), (1,))], "goings_of": [((1, 1), ONE)],
        "laying_of_goings": [((2, 1), (TIE,), (-1,)), ((2, 1), (TIE,), (-1, 1))],
        "all_with_lot": [((2, 1), (TIE,)), ((4, 4), ())], "way_gone": [((1, 1), ONE, (0, 1)), ((1, 1), ONE, (0, 2))],
        "round_turned": [((1, 1), ONE, (0, 1)), ((1, 1), ONE, (0, 2))], "all_turned": [((1, 1), ONE)],
        "rounds_about": [((2, 1), (TIE,), ("dot", 0, 0)), ((2, 1), (TIE,), ("inner", 0, 0))],
        "outer_rounds": [((2, 1), (TIE,))], "turns_of": [((2, 1), (), (1, -1)), ((2, 1), (), (1,))],
        "height_by_rounds": [((1, 1), ONE, ("dot", 0, 0)), ((1, 1), ONE, ("dot", 1, 0))],
    },
    sums: {
        "sum_by_lots": [((2, 2),), ((3, 3),)], "lot_table": [((2, 2),), ((3, 3),)],
        "lots_with": [((2, 2), 2), ((3, 3), 2)], "sum_by_rises": [((2, 2),), ((3, 4),)],
        "rise_table": [((2, 2),), ((3, 4),)], "flattest": [((2, 2),), ((3, 4),)],
        "sum_by_ties": [((2, 2),), ((3, 3),)], "even_chance": [((2, 2), (TIE,)), ((3, 3), (TIE,))],
    },
    squares: {
        "is_deed": [((2, 1), BESIDE, PAIR), ((1, 1), ONE, PAIR)], "deeds": [((2, 1), BESIDE)],
        "done": [((2, 1), BESIDE, PAIR), ((1, 1), ONE, PAIR)],
        "laid_anew": [((2, 1), BESIDE, SQUARE), ((1, 1), ONE, PAIR)],
        "behind": [((2, 1), BESIDE, (PAIR, PAIR, SQUARE)), ((2, 1), BESIDE, (PAIR, SQUARE))],
        "layings_along": [((2, 1), BESIDE, (SQUARE, SQUARE, PAIR)), ((2, 1), BESIDE, (PAIR, SQUARE))],
        "is_done_by": [((2, 1), BESIDE, (SQUARE,)), ((2, 1), BESIDE, (PAIR, SQUARE))],
        "undone": [((2, 1), (SQUARE, PAIR)), ((1, 1), (PAIR,))], "deed_between": [((1, 1), ONE, TWO), ((1, 1), ONE, ONE)],
    },
    fewest: {
        "fewest": [((1, 1), ONE, TWO)], "shares": [((1, 1), ONE, TWO)], "first_faces": [((1, 1), ONE, TWO)],
        "plan": [((1, 1), ONE, TWO)], "is_plan": [((1, 1), ONE, TWO, (SQUARE,)), ((1, 1), ONE, ONE, (SQUARE,))],
        "many_squares": [((2, 1), (SQUARE, PAIR, SQUARE)), ((1, 1), (PAIR,))], "farthest": [((3, 3),)],
    },
    told_pieces: {
        "is_told": [((1, 1), TWICE), ((1, 1), TWICE[::-1])], "signs_told": [((1, 1), TWICE)],
        "ties_told": [((2, 1), ((2, 3, 0), (3, 2, 1)))], "both_ways": [((2, 1), ((3, 2, 1), (3, 2, 2)))],
        "bound": [((1, 1), TWICE, ("rim",), ("dot", 0, 0)), ((1, 1), TWICE, ("rim",), ("rim",))],
        "ring_bound": [((1, 1), TWICE, (("rim",), ("dot", 0, 0), ("rim",))), ((1, 1), TWICE, (("rim",),))],
        "falling_ring": [((1, 1), TWICE), ((1, 1), ONE)],
        "is_falling_ring": [((1, 1), TWICE, (("rim",), ("dot", 0, 0), ("rim",))), ((1, 1), ONE, (("rim",),))],
    },
    finished: {
        "can_finish": [((1, 1), ONE[:1]), ((1, 1), TWICE)], "finished": [((2, 1), BESIDE[:2]), ((1, 1), TWICE)],
        "why_not": [((1, 1), TWICE), ((2, 1), BOTH), ((1, 1), ONE)],
        "is_why_not": [((1, 1), TWICE, ("ring", (("rim",), ("dot", 0, 0), ("rim",)))), ((2, 1), BOTH, ("tie", TIE))],
        "least_finished": [((2, 2), ONE[:1]), ((1, 1), TWICE)], "greatest_finished": [((2, 2), ONE[:1]), ((1, 1), TWICE)],
        "height_span": [((2, 2), ONE[:1], ("inner", 0, 0)), ((1, 1), TWICE, ("rim",)), ((1, 1), (), ("dot", 1, 0))],
        "can_lie_beside": [((1, 1), ONE[:1], (2, 0, 1)), ((1, 1), TWICE, (5, 5, 5))],
        "sure_pieces": [((1, 1), ONE[:1]), ((1, 1), TWICE)], "sure_ties": [((2, 1), BESIDE[:2]), ((2, 1), BOTH)],
    },
    counts: {
        "many_layings": [((2, 2), ONE[:1]), ((8, 8), ())], "many_rises": [((2, 2), ONE[:1]), ((8, 8), ())],
        "share_of": [((2, 2), ONE[:1], (2, 3, 0)), ((1, 1), TWICE, (0, 1, 0)), ((8, 8), (), (0, 1, 0))],
        "block_shares": [((2, 2), ONE[:1], (1, 1)), ((2, 2), (), (4, 0)), ((8, 8), (), (0, 0))],
        "many_above": [((2, 2), RISE), ((2, 1), RISE)],
        "height_counts": [((2, 2), ("inner", 0, 0)), ((2, 2), ("inner", 0, 1)), ((8, 8), ("rim",))],
        "flat_counts": [((2, 3),), ((8, 8),)],
    },
    numbered: {
        "block_row": [((1, 1), ONE)], "how_many_begin": [((2, 1), ROW[:3]), ((2, 1), ROW[1:]), ((8, 8), ())],
        "next_pieces": [((2, 1), ROW[:3]), ((2, 1), ROW), ((8, 8), ())],
        "laying_number": [((2, 1), BESIDE)], "laying_at": [((2, 1), 4), ((2, 1), 6), ((8, 8), 0)],
        "first_laying": [((2, 2),), ((8, 8),)], "last_laying": [((2, 2),), ((8, 8),)],
        "next_laying": [((2, 1), BESIDE), ((1, 1), TWO)], "laying_ahead": [((2, 1), BESIDE), ((1, 1), ONE)],
        "layings_from": [((2, 2), 80, 3), ((2, 2), 84, 3), ((1, 1), 0, 101), ((1, 1), 0, 0)],
    },
    texts: {
        "picture": [((1, 1), ONE)], "read_picture": [(">v\n^<\n",), (">v\n^^\n",), (">v\n^\n",)],
        "is_sheet": [(((2, 1), ONE, (SQUARE, PAIR)),), (((2, 1), (), None),)],
        "sheet_text": [(((2, 1), ONE, (SQUARE, PAIR)),), (((1, 1), (), (("square", ("rim",)),)),)],
        "read_sheet": [("floor 2 1\npiece 0 1 0\nsquare dot 0 0\npair 0 0 1 0",), ("floor 1 1\n\npair 0 0 0 0",)],
    },
    middles: {
        "middle_rise": [((1, 1), (ONE, TWO, ONE)), ((1, 1), (ONE, TWO))], "middle": [((1, 1), (ONE, TWO, ONE)), ((1, 1), ())],
        "is_middle": [((1, 1), (ONE, TWO, ONE), ONE), ((1, 1), (ONE, TWO, ONE), TWO)],
        "kept_by_all": [((1, 1), (ONE, ONE, ONE)), ((1, 1), (ONE, TWO, ONE))],
        "sum_to": [((1, 1), TWO, (ONE, TWO, ONE))], "is_between": [((1, 1), ONE, TWO, TWO), ((1, 1), ONE, ONE, TWO)],
        "rises_between": [((1, 1), ONE, TWO), ((1, 1), ONE, ONE)],
    },
    seams: {
        "is_line": [((2, 1), (0, 1)), ((2, 1), (1, 1))], "ties_across": [((2, 2), (0, 1)), ((2, 1), (1, 1))],
        "faces_on": [((2, 2), (1, 1)), ((2, 1), (0, 1))], "pieces_across": [((2, 1), KNOT, (0, 1)), ((2, 1), BESIDE, (0, 1))],
        "seams": [((2, 1), BESIDE), ((2, 1), KNOT)], "parted_at": [((2, 1), BESIDE, (0, 1)), ((2, 1), KNOT, (0, 1))],
        "put_beside": [((1, 1), ONE, (1, 1), TWO, 1), ((1, 1), ONE, (2, 1), BESIDE, 1)],
        "nearest_parted": [((2, 1), KNOT, (0, 1)), ((2, 1), KNOT, (0, 2))],
        "squares_to_part": [((2, 1), KNOT, (0, 1)), ((2, 1), KNOT, (0, 2))],
    },
    judge: {
        "is_demand": [(MANY,), (("many", (1, 1), (), -1),)], "is_so": [(MANY,), (FEW,), (ALL,), (("many",),)],
        "paper_against": [(MANY,), (FEW,), (ALL,), (APART,), (("rounds", (2, 1), (), 1),), (("finish", (1, 1), TWICE),)],
        "is_paper_against": [(MANY, (ONE, TWO)), (FEW, (ONE, TWO)), (APART, (((2,),), ())), (ALL, ())],
        "reason_for": [(MANY,), (FEW,), (ALL,), (("fewest", (1, 1), ONE, TWO, 1),), (("rounds", (2, 1), (TIE,), 1),)],
        "is_reason_for": [(MANY, (ONE, TWO)), (FEW, (ONE, TWO)), (("finish", (1, 1), ()), TWO), (ALL, ())],
        "first_fallen": [((MANY, FEW),), ((MANY, MANY),), ((FEW, ALL),), ((FEW, None),), ((MANY, ALL),)],
    },
}


def all_calls():
    """Each function with its arguments, name by name."""
    for module, calls in CALLS.items():
        for name, told in calls.items():
            function = getattr(module, name)
            names = list(inspect.signature(function).parameters)
            for args in told:
                yield function, dict(zip(names, args))


def result(function, named):
    """What a call returns or raises, as a text that tells tuples and lists apart."""
    error = caught(function, **named)
    return told_error(error) if error is not None else repr(function(**named))


class EveryFunction(unittest.TestCase):
    def test_each_is_called_here(self):
        self.assertEqual({module: set(told) for module, told in CALLS.items()},
                         {module: set(told) for module, told in FUNCTIONS.items()})

    def test_by_position_and_by_name(self):
        for function, named in all_calls():
            with self.subTest(function=function.__name__, **named):
                told = result(function, named)
                turned = dict(reversed(list(named.items())))
                self.assertEqual(result(function, turned), told)
                error = caught(function, *named.values())
                again = told_error(error) if error is not None else repr(function(*named.values()))
                self.assertEqual(again, told)

    def test_lists_for_tuples(self):
        for function, named in all_calls():
            with self.subTest(function=function.__name__, **named):
                given = {name: value if name == "thing" else listed(value) for name, value in named.items()}
                held = copy.deepcopy(given)
                self.assertEqual(result(function, given), result(function, named))
                self.assertEqual(given, held)

    def test_lists_are_mixed_with_tuples(self):
        for function, named in all_calls():
            for name, value in named.items():
                if name != "thing" and isinstance(value, (list, tuple)):
                    mixed = [list(item) if isinstance(item, tuple) else item for item in value]
                    for given in (list(value), tuple(value), tuple(mixed)):
                        with self.subTest(function=function.__name__, **named):
                            self.assertEqual(result(function, {**named, name: given}), result(function, named))

    def test_a_thing_is_no_list(self):
        for function, named in all_calls():
            if isinstance(named.get("thing"), tuple) and caught(function, **named) is None:
                self.assertIs(function(**{**named, "thing": listed(named["thing"])}), False)

    def test_returned_lists_are_new(self):
        for function, named in all_calls():
            if caught(function, **named) is None:
                told = function(**named)
                held = copy.deepcopy(told)
                if isinstance(told, list):
                    told.append(None)
                    self.assertIsNot(function(**named), told)
                self.assertEqual(function(**named), held)

    def test_what_is_returned_has_no_lists_within(self):
        for function, named in all_calls():
            if caught(function, **named) is None:
                told = function(**named)
                self.assertNotIn("[", repr(tuple(told) if isinstance(told, list) else told))


if __name__ == "__main__":
    unittest.main()
