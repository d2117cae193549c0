"""Ties: point [9]."""

import unittest

from teefloors import errors, floors, ties
from teefloors.layings import all_layings, some_laying
from teefloors.pieces import goes_to, own_block, tie_told
from teefloors.ties import (
    is_lot, joined_blocks, lands, lot_of, lots, other_lot, part_of, parts, put_together,
)
from tests.helpers import FLOORS, ODD, check_raises, check_transcript, check_unfit, listed
from tests.own import RIM, SMALL, own_blocks, own_joined, own_lands, own_lot, own_lots, own_parts, own_ties

EXAMPLES = r"""
>>> square = (2, 2)
>>> south, north, west, east = ((0, 0), (1, 0)), ((0, 1), (1, 1)), ((0, 0), (0, 1)), ((1, 0), (1, 1))
>>> ring = (west, south, north, east)
>>> is_lot(square, ring), is_lot(square, (south, west)), is_lot(square, ()), is_lot(square, [west]), len(lots(square)), lots((2, 1))
(True, False, True, False, 16, [(), (((0, 0), (1, 0)),)])
>>> parts(square, (west,)), parts(square, ring), part_of(square, (west,), (1, 3)), part_of(square, (west,), (2, 3))
((((0, 0), (0, 1)), ((1, 0),), ((1, 1),)), (((0, 0), (0, 1), (1, 0), (1, 1)),), ((0, 0), (0, 1)), ((1, 1),))
>>> lands(square, ring), lands(square, (west,))
(((('inner', 0, 0),), (('rim',),)), ((('inner', 0, 0), ('rim',)),))
>>> other_lot(square, (west, east)) == (south, north), put_together(square, (west, south), (south, north)) == (west, north)
(True, True)
>>> [joined_blocks(square, (south,), own) for own in ((0, 0), (1, 0), (1, 1), (3, 3))]
[((0, 1), (1, 0)), ((2, 0), (0, 0)), ((2, 1), (0, 1)), ((3, 2), (2, 3))]
>>> lot_of((2, 1), ((0, 2, 0), (1, 0, 1), (2, 3, 3), (3, 1, 3), (4, 2, 1), (5, 0, 1), (6, 3, 3), (7, 1, 2)))
(((0, 0), (1, 0)),)
>>> joined_blocks(square, (), (4, 0))
raises NoBlock(block=(4, 0))
>>> parts(square, (south, south))
raises Unfit()
"""

ONE = ((0, 1, 0), (1, 3, 3), (2, 0, 1), (3, 2, 2))
SOUTH, NORTH, WEST, EAST = ((0, 0), (1, 0)), ((0, 1), (1, 1)), ((0, 0), (0, 1)), ((1, 0), (1, 1))
UNFIT_LOTS = [
    *ODD, 0, SOUTH, (SOUTH, SOUTH), (SOUTH, WEST), (((0, 0), (1, 1)),), (((1, 0), (0, 0)),), (((0, 0), (0, 0)),),
    (((1, 0), (2, 0)),), (((0, 0),),), (((0, 0), (1, 0), (1, 1)),), ((SOUTH,),), (SOUTH, None), (SOUTH, ("dot", 0, 0)),
    (((0, 0), (True, 0)),), (((0, 0), (1, False)),),
]


class Lots(unittest.TestCase):
    def test_examples(self):
        check_transcript(self, EXAMPLES, [errors, ties])

    def test_all(self):
        for floor in [*SMALL, (1, 8), (2, 4), (3, 3)]:
            self.assertEqual(lots(floor), own_lots(floor))
        self.assertEqual(len(lots((1, 13))), 4096)

    def test_too_many(self):
        for m, n in [*FLOORS, (1, 14), (14, 1), (9, 9)]:
            if 2 * m * n - m - n > 12:
                check_raises(self, "TooMany()", lots, (m, n))
        check_raises(self, "TooMany()", lots, floor=[2, 5])

    def test_is_lot(self):
        for floor in [(1, 1), (2, 1), (2, 2), (2, 3)]:
            for lot in own_lots(floor):
                self.assertIs(is_lot(floor, lot), True)
                self.assertIs(is_lot(thing=list(lot), floor=list(floor)), False)
                self.assertIs(is_lot(floor, lot[::-1]), len(lot) < 2)
                self.assertIs(is_lot(floor, lot + lot[-1:]), not lot)
                if lot:
                    self.assertIs(is_lot(floor, (list(lot[0]), *lot[1:])), False)
                    self.assertIs(is_lot((1, 1), lot), False)
        for thing in [*UNFIT_LOTS, [SOUTH], (SOUTH,) * 3000, tuple(range(5)), [], "ab"]:
            self.assertIs(is_lot((2, 2), thing), False)
        self.assertIs(is_lot((20, 20), floors.ties((20, 20))), True)

    def test_other_and_together(self):
        for floor in [(1, 1), (2, 1), (2, 2), (1, 4)]:
            every = tuple(own_ties(floor))
            for lot in own_lots(floor):
                self.assertEqual(other_lot(floor, lot), tuple(tie for tie in every if tie not in lot))
                self.assertEqual(other_lot(floor, other_lot(floor, lot)), lot)
                for other in own_lots(floor):
                    put = put_together(floor, lot, other)
                    self.assertEqual(put, tuple(sorted(set(lot) ^ set(other))))
                    self.assertEqual(put_together(floor, put, other), lot)


class PartsAndLands(unittest.TestCase):
    def test_all_lots(self):
        for floor in [*SMALL, (1, 5)]:
            for lot in own_lots(floor):
                told, land = parts(floor, lot), lands(floor, lot)
                self.assertEqual(told, own_parts(floor, lot))
                self.assertEqual(land, own_lands(floor, lot))
                # Parts are DOTS less TIES and rings more, lands one more than rings.
                self.assertEqual(len(told), floor[0] * floor[1] - len(lot) + len(land) - 1)
                for block in own_blocks(floor):
                    (own,) = [part for part in told if (block[0] // 2, block[1] // 2) in part]
                    self.assertEqual(part_of(floor, lot, block), own)

    def test_some_lots_of_great_floors(self):
        for floor in [(3, 3), (4, 5), (8, 8)]:
            every = own_ties(floor)
            for step in (1, 2, 3, 5, 200):
                lot = tuple(every[::step])
                self.assertEqual(parts(floor, lot), own_parts(floor, lot))
                self.assertEqual(lands(floor, lot), own_lands(floor, lot))

    def test_by_name_and_with_lists(self):
        self.assertEqual(parts(lot=[[[0, 0], [1, 0]]], floor=[2, 2]), parts((2, 2), (SOUTH,)))
        self.assertEqual(lands(lot=[], floor=[2, 2]), ((("inner", 0, 0), RIM),))
        self.assertEqual(part_of(block=[3, 3], lot=[], floor=[2, 2]), ((1, 1),))


class Joined(unittest.TestCase):
    def check(self, floor, lot):
        told = own_joined(floor, lot)
        for i, j in own_blocks(floor):
            first, second = joined_blocks(floor, lot, (i, j))
            self.assertEqual(sorted([first, second]), sorted(told[i, j]))
            self.assertEqual(len({first, second, (i, j)}), 3)
            self.assertIn((i, j), joined_blocks(floor, lot, first))
            self.assertIn((i, j), joined_blocks(floor, lot, second))
            # First at the side away from its DOT: over it, or along it to the north or south.
            beyond = (i + 1 if i % 2 else i - 1, j)
            self.assertIn(first, (beyond, (i, j - 1 if j % 2 else j + 1)))
            beyond = (i, j + 1 if j % 2 else j - 1)
            self.assertIn(second, (beyond, (i - 1 if i % 2 else i + 1, j)))

    def test_all_lots(self):
        for floor in SMALL:
            for lot in own_lots(floor):
                self.check(floor, lot)

    def test_great_floors(self):
        for floor in [(3, 3), (8, 8)]:
            for step in (1, 2, 3, 5):
                self.check(floor, tuple(own_ties(floor)[::step]))

    def test_as_the_pieces_go(self):
        for floor in [(1, 2), (2, 1), (2, 2)]:
            for laying in all_layings(floor):
                lot = lot_of(floor, laying)
                for own in laying:
                    self.assertIn(goes_to(floor, own), joined_blocks(floor, lot, own_block(floor, own)))


class LotOfALaying(unittest.TestCase):
    def test_all(self):
        for floor in SMALL:
            seen = {}
            for laying in all_layings(floor):
                told = own_lot(laying)
                self.assertEqual(lot_of(floor, laying), told)
                seen[told] = seen.get(told, 0) + 1
            self.assertEqual(sorted(seen), own_lots(floor))
            self.assertEqual(seen[()], 2 ** (floor[0] * floor[1]))

    def test_each_tie_is_told_one_way(self):
        for laying in all_layings((2, 2)):
            told = {tie_told((2, 2), own) for own in laying} - {None}
            tied = {tie for tie, word in told if word == "tied"}
            cut = {tie for tie, word in told if word == "cut"}
            self.assertEqual(tuple(sorted(tied)), lot_of((2, 2), laying))
            self.assertEqual(tuple(sorted(cut)), other_lot((2, 2), tuple(sorted(tied))))

    def test_with_lists(self):
        self.assertEqual(lot_of(laying=listed(ONE), floor=[1, 1]), ())
        self.assertEqual(lot_of((8, 8), some_laying((8, 8))), ())


class Refusals(unittest.TestCase):
    floor = (2, 2)

    def test_floors(self):
        odd = [*ODD, (0, 1), (1, 0), (), [], (1, 1, 1), 1]
        check_unfit(self, lots, [None], 0, odd)
        for function in (is_lot, lot_of, other_lot, parts, lands):
            check_unfit(self, function, [None, ()], 0, odd)
            check_unfit(self, function, [None, None], 0, odd)
        for function in (put_together, part_of, joined_blocks):
            check_unfit(self, function, [None, (), (99, 99)], 0, odd)

    def test_lots(self):
        for function in (other_lot, parts, lands):
            check_unfit(self, function, [self.floor, None], 1, UNFIT_LOTS)
        check_unfit(self, put_together, [self.floor, None, ()], 1, UNFIT_LOTS)
        check_unfit(self, put_together, [self.floor, (), None], 2, UNFIT_LOTS)
        for function in (part_of, joined_blocks):
            for block in ((0, 0), (99, 99)):
                check_unfit(self, function, [self.floor, None, block], 1, UNFIT_LOTS)

    def test_layings(self):
        odd = [*ODD, (), [], ONE[:3], ONE[::-1], ONE * 2, 0, some_laying((1, 2))]
        check_unfit(self, lot_of, [(1, 1), None], 1, odd)

    def test_blocks(self):
        for function in (part_of, joined_blocks):
            check_unfit(self, function, [self.floor, (), None], 2, [*ODD, (), [], (0,), (0, 0, 0), 0, ((0, 0),)])
            for block in ((-1, 0), (0, -1), (4, 0), (0, 4)):
                check_raises(self, f"NoBlock(block={block})", function, self.floor, (SOUTH,), block)
                check_raises(self, f"NoBlock(block={block})", function, [2, 2], [listed(SOUTH)], list(block))


if __name__ == "__main__":
    unittest.main()
