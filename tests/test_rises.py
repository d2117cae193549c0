"""Rises and books: point [11]."""

import random
import unittest

from teefloors import errors, rises
from teefloors.layings import all_layings, is_laying, some_laying
from teefloors.rises import (
    book_of, flat_ties, height, is_book, is_rise, laying_of_rise, layings_of, many_of, rise_of, signs_of, tied_ties,
)
from tests.helpers import FLOORS, ODD, check_raises, check_transcript, check_unfit, listed
from tests.own import (
    RIM, SMALL, as_heights, as_rise, drawn_laying, each_rise, own_blocks, own_dot, own_faces, own_flat, own_heights,
    own_laying_of_rise, own_lot, own_outer, own_rises, own_signs, own_tied, own_ties, rise_with_flat, some_of,
)

EXAMPLES = r"""
>>> flat, hill, low, steep = (((1, 1), (1, 1)), ((0,),)), (((1, 1), (1, 1)), ((2,),)), (((1, -1), (1, 1)), ((0,),)), (((1, -1),), ())
>>> is_rise((2, 2), flat), is_rise((2, 2), (((1, -1), (1, 1)), ((2,),))), is_rise((1, 2), steep), is_rise((1, 2), (((1, 3),), ())), is_rise((2, 1), (((1,), (1,)), ((),)))
(True, False, True, False, True)
>>> flat_ties((2, 2), flat), flat_ties((2, 2), hill), flat_ties((2, 2), low)
((((0, 0), (0, 1)), ((0, 0), (1, 0)), ((0, 1), (1, 1)), ((1, 0), (1, 1))), (), (((0, 0), (1, 0)), ((1, 0), (1, 1))))
>>> tied_ties((2, 2), hill) == flat_ties((2, 2), flat), tied_ties((2, 2), low), [many_of((2, 2), own) for own in (flat, hill, low)], len(layings_of((2, 2), low))
(True, (), [16, 1, 4], 4)
>>> laying_of_rise((1, 1), (((1,),), ()), ()), laying_of_rise((1, 1), (((-1,),), ()), ())
(((0, 2, 0), (1, 0, 1), (2, 3, 3), (3, 1, 2)), ((0, 1, 0), (1, 3, 3), (2, 0, 1), (3, 2, 2)))
>>> plain, tied = (((1, 1),), ()), (((0, 0), (0, 1)),)
>>> long = laying_of_rise((1, 2), plain, tied)
>>> long
((0, 2, 0), (0, 6, 0), (1, 0, 1), (1, 4, 2), (2, 3, 0), (2, 7, 3), (3, 1, 2), (3, 5, 2))
>>> rise_of((1, 2), long) == plain, book_of((1, 2), long) == tied, book_of((1, 2), laying_of_rise((1, 2), plain, ())), layings_of((1, 2), plain)[1] == long
(True, True, (), True)
>>> signs_of((1, 2), steep), height((2, 2), hill, ("inner", 0, 0)), height((2, 2), hill, ("rim",)), height((2, 2), low, ("dot", 0, 1)), is_book((2, 2), low, (((0, 0), (0, 1)),))
(((1, 1, -1, -1), (1, 1, -1, -1)), 2, 0, -1, False)
>>> height((2, 2), hill, ("inner", 1, 0))
raises NoFace(face=('inner', 1, 0))
>>> laying_of_rise((1, 2), steep, tied)
raises Unfit()
"""

FLAT, HILL = (((1, 1), (1, 1)), ((0,),)), (((1, 1), (1, 1)), ((2,),))
LOW, STEEP = (((1, -1), (1, 1)), ((0,),)), (((1, -1),), ())
ONE = ((0, 1, 0), (1, 3, 3), (2, 0, 1), (3, 2, 2))
SOUTH, NORTH, WEST, EAST = ((0, 0), (1, 0)), ((0, 1), (1, 1)), ((0, 0), (0, 1)), ((1, 0), (1, 1))
UNFIT_RISES = [
    *ODD, 0, (), [], ((), ()), FLAT[0], FLAT[1], FLAT[::-1], (FLAT,), (*FLAT, ()), (((1, 1), (1, 1)), ()),
    (((1, 1), (1, 1)), ((),)), (((1, 1), (1, 1)), (0,)), (((1, 1), (1, 1)), ((0, 0),)), (((1, 1),), ((0,),)),
    (((1, 1), (1,)), ((0,),)), (((1, 1), (1, 1), (1, 1)), ((0,),)), (((1, 1), (1, 1)), ((1,),)),
    (((1, 1), (1, 0)), ((0,),)), (((1, 1), (1, 2)), ((0,),)), (((1, 1), (1, 3)), ((2,),)), (((1, -1), (1, 1)), ((2,),)),
    (((1, 1), (1, 1)), ((4,),)), (((1, 1), (1, 1)), ((-2,),)), (((3, 3), (3, 3)), ((2,),)), (((1, 1), (1, True)), ((0,),)),
    (((1, 1), (1, 1)), ((False,),)), (((1, 1), (1, 1)), ((None,),)), (((1, 1), (1, "1")), ((0,),)),
    (((1, 1), (1, 1.0)), ((0,),)), (((1, 1), (1, (1,))), ((0,),)), ((11, 11), ((0,),)), (((1, 1), (1, 1)), 0),
    (((1, 1), (1, 1)), ((10 ** 40,),)), STEEP, (((1,), (1,)), ((),)),
]


def all_with(floor, rise):
    return [own_laying_of_rise(floor, rise, book) for book in some_of(own_flat(floor, rise))]


class Examples(unittest.TestCase):
    def test_examples(self):
        check_transcript(self, EXAMPLES, [errors, rises])


class RisesAndBooks(unittest.TestCase):
    def test_layings_are_just_the_pairs(self):
        for floor in SMALL:
            pairs = {}
            for laying in all_layings(floor):
                rise, book = rise_of(floor, laying), book_of(floor, laying)
                self.assertEqual(rise, as_rise(floor, own_heights(floor, laying)))
                self.assertEqual(book, tuple(sorted(set(own_flat(floor, rise)) & set(own_lot(laying)))))
                self.assertEqual(laying_of_rise(floor, rise, book), laying)
                self.assertIs(is_rise(floor, rise), True)
                self.assertIs(is_book(floor, rise, book), True)
                pairs[rise, book] = laying
            told = {(rise, book) for rise in own_rises(floor) for book in some_of(own_flat(floor, rise))}
            self.assertEqual(set(pairs), told)

    def test_there_and_back(self):
        for floor, rise in each_rise(4):
            draw = random.Random(str(rise))
            for _ in range(2):
                book = tuple(tie for tie in own_flat(floor, rise) if draw.random() < 0.5)
                laying = laying_of_rise(floor, rise, book)
                self.assertEqual(laying, own_laying_of_rise(floor, rise, book))
                self.assertTrue(is_laying(floor, laying))
                self.assertEqual((rise_of(floor, laying), book_of(floor, laying)), (rise, book))

    def test_heights_and_signs(self):
        for floor, rise in each_rise(4):
            heights = as_heights(rise)
            for face in own_faces(floor):
                self.assertEqual(height(floor, rise, face), heights[face])
                self.assertLessEqual(abs(heights[face]), min(floor))
            told = signs_of(floor, rise)
            self.assertEqual((len(told), {len(row) for row in told}), (2 * floor[0], {2 * floor[1]}))
            laying = own_laying_of_rise(floor, rise, ())
            signs = own_signs(laying)
            for i, j in own_blocks(floor):
                self.assertEqual(told[i][j], heights[own_dot((i, j))] - heights[own_outer(floor, (i, j))])
                self.assertEqual(told[i][j], signs[i, j])

    def test_flat_and_tied(self):
        for floor, rise in each_rise(4):
            self.assertEqual(flat_ties(floor, rise), own_flat(floor, rise))
            self.assertEqual(tied_ties(floor, rise), own_tied(floor, rise))
            self.assertEqual(many_of(floor, rise), 2 ** len(own_flat(floor, rise)))
            self.assertFalse(set(flat_ties(floor, rise)) & set(tied_ties(floor, rise)))

    def test_of_great_floors(self):
        for floor in FLOORS:
            laying = some_laying(floor)
            rise = rise_of(floor, laying)
            self.assertEqual(rise[0], ((1,) * floor[1],) * floor[0])
            self.assertEqual(rise[1], ((0,) * (floor[1] - 1),) * (floor[0] - 1))
            self.assertEqual(book_of(floor, laying), ())
            self.assertEqual(many_of(floor, rise), 2 ** len(own_ties(floor)))
            self.assertEqual(laying_of_rise(floor, rise, flat_ties(floor, rise)), all_tied(floor, rise))

    def test_by_name_and_with_lists(self):
        self.assertEqual(laying_of_rise(book=[listed(SOUTH)], rise=listed(LOW), floor=[2, 2]),
                         laying_of_rise((2, 2), LOW, (SOUTH,)))
        self.assertEqual(height(face=["inner", 0, 0], rise=listed(HILL), floor=[2, 2]), 2)
        self.assertEqual(rise_of(laying=listed(ONE), floor=[1, 1]), (((-1,),), ()))


def all_tied(floor, rise):
    return own_laying_of_rise(floor, rise, own_ties(floor))


class LayingsOf(unittest.TestCase):
    def test_small(self):
        for floor in SMALL:
            found = []
            for rise in own_rises(floor):
                told = layings_of(floor, rise)
                self.assertEqual(told, sorted(all_with(floor, rise)))
                self.assertEqual(len(told), many_of(floor, rise))
                found.extend(told)
            self.assertEqual(sorted(found), all_layings(floor))

    def test_ten_and_more(self):
        for floor in ((2, 5), (4, 4), (8, 8)):
            rise = rise_with_flat(floor, 10, 10)
            told = layings_of(floor, rise)
            self.assertEqual(len(told), 1024)
            if floor != (8, 8):
                self.assertEqual(told, sorted(all_with(floor, rise)))
            else:
                self.assertEqual(told, sorted(set(told)))
                for laying in told[::50]:
                    self.assertEqual(rise_of(floor, laying), rise)
        for floor in ((3, 3), (4, 4), (8, 8)):
            # Of (3, 3) there are RISES with 10 and with 12 FLAT TIES, but none with 11.
            rise = rise_with_flat(floor, 11, 12)
            check_raises(self, "TooMany()", layings_of, floor, rise)
            self.assertIn(many_of(floor, rise), (2048, 4096))
        self.assertEqual(len(layings_of((1, 11), (((1,) * 11,), ()))), 1024)
        check_raises(self, "TooMany()", layings_of, (1, 12), (((1,) * 12,), ()))
        check_raises(self, "TooMany()", layings_of, [1, 12], [[[1] * 12], []])


class Things(unittest.TestCase):
    def test_is_rise(self):
        for floor, rise in each_rise(1):
            self.assertIs(is_rise(floor, rise), True)
            self.assertIs(is_rise(thing=rise, floor=list(floor)), True)
            self.assertIs(is_rise(floor, list(rise)), False)
            self.assertIs(is_rise(floor, (list(rise[0]), rise[1])), False)
            self.assertIs(is_rise(floor, (rise[0], list(rise[1]))), False)
            self.assertIs(is_rise(floor, ((list(rise[0][0]), *rise[0][1:]), rise[1])), False)
            self.assertIs(is_rise((floor[0] + 1, floor[1]), rise), False)

    def test_one_height_changed(self):
        for floor in SMALL:
            told = set(own_rises(floor))
            for rise in own_rises(floor)[::5]:
                for face in own_faces(floor):
                    for more in (-4, -2, -1, 1, 2, 4):
                        heights = as_heights(rise)
                        heights[face] += more
                        if face != RIM:
                            changed = as_rise(floor, heights)
                            self.assertIs(is_rise(floor, changed), changed in told)

    def test_any_value_is_no_rise(self):
        for thing in [*UNFIT_RISES, ((1,) * 5000,) * 2, "ab", ("ab", "a"), (FLAT,) * 2000]:
            self.assertIs(is_rise((2, 2), thing), False)
        for thing in ((((1,), (1,)), ()), (((1,), (1,)), ((0,),)), (((1, 1),), ((),)), (((1,), (1,)), [()]),
                      (((1,), (1,)), ((), ()))):
            self.assertIs(is_rise((2, 1), thing), False)
        self.assertIs(is_rise((9, 9), rise_of((9, 9), some_laying((9, 9)))), True)

    def test_is_book(self):
        for floor in SMALL:
            for rise in own_rises(floor):
                books = some_of(own_flat(floor, rise))
                for lot in some_of(own_ties(floor)):
                    self.assertIs(is_book(floor, rise, lot), lot in books)
        self.assertIs(is_book(thing=(SOUTH,), rise=listed(LOW), floor=[2, 2]), True)
        for thing in ([SOUTH], (list(SOUTH),), (EAST, SOUTH), (SOUTH, SOUTH), (WEST,), (SOUTH, NORTH), SOUTH,
                      (((1, 0), (0, 0)),), (((0, 0), (True, 0)),), (SOUTH, None), *ODD, (SOUTH,) * 5000, [], 0):
            self.assertIs(is_book((2, 2), LOW, thing), False)
        self.assertIs(is_book((2, 2), LOW, (SOUTH, EAST)), True)


class Refusals(unittest.TestCase):
    def test_floors(self):
        odd = [*ODD, (0, 1), (1, 0), (), [], (1, 1, 1), 1]
        for function, more in {
            is_rise: [FLAT], is_book: [FLAT, ()], rise_of: [ONE], book_of: [ONE], height: [FLAT, RIM],
            signs_of: [FLAT], flat_ties: [FLAT], tied_ties: [FLAT], laying_of_rise: [FLAT, ()], layings_of: [FLAT],
            many_of: [FLAT],
        }.items():
            check_unfit(self, function, [None, *more], 0, odd)

    def test_layings(self):
        odd = [*ODD, (), [], ONE[:3], ONE[::-1], ONE * 2, 0, some_laying((1, 2))]
        for function in (rise_of, book_of):
            check_unfit(self, function, [(1, 1), None], 1, odd)

    def test_rises(self):
        for function, more in {
            is_book: [()], height: [("inner", 9, 9)], signs_of: [], flat_ties: [], tied_ties: [], laying_of_rise: [()],
            layings_of: [], many_of: [],
        }.items():
            check_unfit(self, function, [(2, 2), None, *more], 1, UNFIT_RISES)

    def test_books(self):
        odd = [*ODD, 0, SOUTH, (WEST,), (EAST, SOUTH), (SOUTH, SOUTH), (((1, 0), (0, 0)),), (SOUTH, None),
               (((1, 0), (2, 0)),), (((0, 0), (True, 0)),), (SOUTH, NORTH), (((0, 0), (1, 1)),)]
        check_unfit(self, laying_of_rise, [(2, 2), LOW, None], 2, odd)
        check_unfit(self, laying_of_rise, [(2, 2), HILL, None], 2, [(SOUTH,), (NORTH,), (SOUTH, NORTH)])

    def test_faces(self):
        odd = [value for value in ODD if value not in (["rim"],)]
        check_unfit(self, height, [(2, 2), LOW, None], 2, [*odd, (), [], 0, "rim", ("inner", 0), ("Dot", 0, 0)])
        for face in (("inner", 1, 0), ("inner", 0, -1), ("dot", 2, 0), ("dot", 0, 2), ("dot", -1, 0)):
            check_raises(self, f"NoFace(face={face})", height, (2, 2), LOW, face)
            check_raises(self, f"NoFace(face={face})", height, [2, 2], listed(LOW), list(face))
        check_raises(self, "NoFace(face=('inner', 0, 0))", height, (1, 2), STEEP, ("inner", 0, 0))

    def test_some_layings_with_one_piece_wrong(self):
        for seed in range(30):
            laying = drawn_laying(random.Random(seed), (2, 2))
            wrong = tuple(sorted({*laying[1:], (laying[0][0], laying[0][1], (laying[0][2] + 1) % 4)}))
            check_raises(self, "Unfit()", rise_of, (2, 2), wrong)
            check_raises(self, "Unfit()", book_of, (2, 2), wrong)


if __name__ == "__main__":
    unittest.main()
