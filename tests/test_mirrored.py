"""Moved floors: point [8]."""

import random
import unittest

from teefloors import errors, layings, mirrored
from teefloors.floors import blocks_at, faces, ties
from teefloors.layings import all_layings, is_laying, some_laying
from teefloors.mirrored import (
    are_alike, block_moved, cell_moved, floor_moved, least_seen, move_back, moves_between, moves_put, pieces_moved,
    unlike_layings, way_moved,
)
from teefloors.pieces import own_block, sign_of
from teefloors.ties import lot_of
from tests.helpers import FEW_LAYINGS, ODD, STEPS, cells, check_raises, check_transcript, check_unfit, listed

EXAMPLES = r"""
>>> floor_moved((1, 2), 1), floor_moved((1, 2), 6), [way_moved(0, own) for own in range(8)], [cell_moved((1, 2), (1, 0), own) for own in range(8)]
((2, 1), (1, 2), [0, 1, 2, 3, 2, 3, 0, 1], [(1, 0), (7, 1), (2, 7), (0, 2), (2, 0), (7, 2), (1, 7), (0, 1)])
>>> block_moved((1, 2), (0, 0), 1), pieces_moved((1, 1), ((0, 1, 0),), 1), pieces_moved((1, 1), ((0, 1, 0),), 4)
((3, 0), ((2, 0, 1),), ((3, 1, 2),))
>>> one, two = all_layings((1, 1))
>>> pieces_moved((1, 1), one, 1) == one, pieces_moved((1, 1), one, 4) == two, moves_between((1, 1), one, one), moves_between((1, 1), one, two)
(True, True, (0, 1, 2, 3), (4, 5, 6, 7))
>>> [move_back(own) for own in range(8)], moves_put(1, 4), moves_put(4, 1), moves_put(5, 5), moves_put(3, 2)
([0, 3, 2, 1, 4, 5, 6, 7], 7, 5, 0, 1)
>>> [len(unlike_layings(own)) for own in ((1, 1), (1, 2), (1, 3), (2, 2))], least_seen((1, 1), two) == one, are_alike((1, 1), one, two)
([1, 3, 6, 15], True, True)
>>> way_moved(4, 0)
raises Unfit()
>>> cell_moved((1, 2), (4, 0), 1)
raises NoCell(cell=(4, 0))
"""

MOVES = range(8)
SMALL = [(1, 1), (1, 2), (2, 1), (2, 2), (1, 3), (3, 2), (2, 3)]
ONE = ((0, 1, 0), (1, 3, 3), (2, 0, 1), (3, 2, 2))
UNFIT_MOVES = [*ODD, 9, (), [], [0], "0", 10 ** 40, 3.0]


def turned(x, y, number):
    """A point about the middle of a floor, mirrored and turned to the left."""
    if number >= 4:
        x = 0 - x
    for _ in range(number % 4):
        x, y = 0 - y, x
    return x, y


def own_moved(wide, high, spot, number):
    """A place of a field moved: its middle, in halves, about the middle of the field."""
    x, y = turned(2 * spot[0] + 1 - wide, 2 * spot[1] + 1 - high, number)
    if number % 2:
        wide, high = high, wide
    return ((x - 1 + wide) // 2, (y - 1 + high) // 2)


def own_pieces_moved(floor, pieces, number):
    """PIECES moved: those with the CELLS moved, and the middle moved."""
    wide, high = 4 * floor[0], 4 * floor[1]
    led = set()
    for piece in pieces:
        middle = own_moved(wide, high, piece[:2], number)
        covered = {own_moved(wide, high, cell, number) for cell in cells(piece)}
        led |= {(*middle, way) for way in range(4) if cells((*middle, way)) == covered}
    return tuple(sorted(led))


def floor_to_itself(floor):
    return [number for number in MOVES if floor[0] == floor[1] or number % 2 == 0]


class Moves(unittest.TestCase):
    def test_examples(self):
        check_transcript(self, EXAMPLES, [errors, layings, mirrored])

    def test_floors_and_ways(self):
        for number in MOVES:
            for floor in [(1, 1), (1, 2), (3, 2), (8, 7), (1, 12)]:
                self.assertEqual(floor_moved(floor, number), floor[::-1] if number % 2 else floor)
            for way in range(4):
                self.assertEqual(STEPS[way_moved(way, number)], turned(*STEPS[way], number))

    def test_east_side_comes_to_the_north(self):
        self.assertEqual([cell_moved((1, 2), (3, y), 1)[1] for y in range(8)], [3] * 8)
        self.assertEqual([cell_moved((1, 2), (3, y), 4)[0] for y in range(8)], [0] * 8)
        self.assertEqual([cell_moved((1, 2), (3, y), 5)[1] for y in range(8)], [0] * 8)

    def test_cells_and_blocks(self):
        for m, n in [*SMALL, (8, 3)]:
            for number in MOVES:
                for x in range(4 * m):
                    for y in range(4 * n):
                        told = own_moved(4 * m, 4 * n, (x, y), number)
                        self.assertEqual(cell_moved((m, n), (x, y), number), told)
                for i in range(2 * m):
                    for j in range(2 * n):
                        told = own_moved(2 * m, 2 * n, (i, j), number)
                        self.assertEqual(block_moved((m, n), (i, j), number), told)
                        cell = cell_moved((m, n), (2 * i, 2 * j), number)
                        self.assertEqual((cell[0] // 2, cell[1] // 2), told)

    def test_pieces(self):
        for seed in range(60):
            draw = random.Random(seed)
            m, n = floor = draw.choice(SMALL)
            within = [(x, y, way) for x in range(1, 4 * m - 1) for y in range(1, 4 * n - 1) for way in range(4)]
            pieces = tuple(draw.choice(within) for _ in range(draw.randrange(12)))
            for number in MOVES:
                told = own_pieces_moved(floor, pieces, number)
                self.assertEqual(pieces_moved(floor, pieces, number), told)
                self.assertEqual(pieces_moved(number=number, pieces=listed(pieces), floor=list(floor)), told)
        self.assertEqual(pieces_moved((1, 2), (), 3), ())
        self.assertEqual(pieces_moved((1, 1), (ONE[1], ONE[0], ONE[1]), 0), ONE[:2])

    def test_layings(self):
        for floor in [(1, 1), (1, 2), (2, 1), (2, 2), (1, 3)]:
            for laying in all_layings(floor):
                for number in MOVES:
                    led = pieces_moved(floor, laying, number)
                    self.assertEqual(led, own_pieces_moved(floor, laying, number))
                    self.assertTrue(is_laying(floor_moved(floor, number), led))

    def test_signs(self):
        for floor in [(1, 2), (2, 2)]:
            for laying in all_layings(floor)[::5]:
                for number in MOVES:
                    goal = floor_moved(floor, number)
                    signs = {own_block(goal, own): sign_of(goal, own) for own in pieces_moved(floor, laying, number)}
                    for own in laying:
                        block = block_moved(floor, own_block(floor, own), number)
                        sign = sign_of(floor, own)
                        self.assertEqual(signs[block], sign if number < 4 else 0 - sign)

    def test_faces_and_ties(self):
        for floor in SMALL:
            for number in MOVES:
                goal = floor_moved(floor, number)
                blocks = {face: blocks_at(goal, face) for face in faces(goal)}
                for face in faces(floor):
                    led = tuple(sorted(block_moved(floor, block, number) for block in blocks_at(floor, face)))
                    self.assertIn(led, [told for other, told in blocks.items() if other[0] == face[0]])

    def test_tied_ties_to_tied_ones(self):
        for floor in [(1, 2), (2, 2)]:
            m, n = floor
            for laying in all_layings(floor)[::7]:
                for number in MOVES:
                    goal = floor_moved(floor, number)
                    led = [[own_moved(m, n, dot, number) for dot in tie] for tie in lot_of(floor, laying)]
                    self.assertTrue(all(tuple(sorted(tie)) in ties(goal) for tie in led))
                    told = tuple(sorted(tuple(sorted(tie)) for tie in led))
                    self.assertEqual(lot_of(goal, pieces_moved(floor, laying, number)), told)

    def test_taken_back(self):
        for number in MOVES:
            back = move_back(number)
            for floor in SMALL:
                laying = some_laying(floor)
                goal = floor_moved(floor, number)
                self.assertEqual(floor_moved(goal, back), floor)
                self.assertEqual(pieces_moved(goal, pieces_moved(floor, laying, number), back), laying)
                self.assertEqual(cell_moved(goal, cell_moved(floor, (1, 3), number), back), (1, 3))
                self.assertEqual(block_moved(goal, block_moved(floor, (1, 0), number), back), (1, 0))
            for way in range(4):
                self.assertEqual(way_moved(way_moved(way, number), back), way)
            self.assertEqual([own for own in MOVES if moves_put(number, own) == 0], [back])
            self.assertEqual(move_back(number=number), back)

    def test_two_are_one(self):
        for floor in [(1, 2), (2, 3)]:
            laying = all_layings(floor)[3]
            for one in MOVES:
                half, led = floor_moved(floor, one), pieces_moved(floor, laying, one)
                for second in MOVES:
                    both = moves_put(one, second)
                    self.assertEqual(moves_put(second=second, one=one), both)
                    self.assertEqual(floor_moved(half, second), floor_moved(floor, both))
                    self.assertEqual(pieces_moved(half, led, second), pieces_moved(floor, laying, both))
                    for x in range(4 * floor[0]):
                        for y in range(4 * floor[1]):
                            there = cell_moved(half, cell_moved(floor, (x, y), one), second)
                            self.assertEqual(there, cell_moved(floor, (x, y), both))
                    for i in range(2 * floor[0]):
                        for j in range(2 * floor[1]):
                            there = block_moved(half, block_moved(floor, (i, j), one), second)
                            self.assertEqual(there, block_moved(floor, (i, j), both))
                    for way in range(4):
                        self.assertEqual(way_moved(way_moved(way, one), second), way_moved(way, both))


class Alike(unittest.TestCase):
    def test_between(self):
        for floor in [(1, 1), (1, 2), (2, 1), (1, 3)]:
            found = all_layings(floor)
            for one in found:
                led = {number: own_pieces_moved(floor, one, number) for number in floor_to_itself(floor)}
                self.assertIn(list(led.values()).count(one), (1, 2, 4))
                self.assertEqual(least_seen(floor, one), min(led.values()))
                for two in found:
                    told = tuple(number for number in sorted(led) if led[number] == two)
                    self.assertEqual(moves_between(floor, one, two), told)
                    self.assertIs(are_alike(floor, one, two), bool(told))

    def test_square(self):
        found = all_layings((2, 2))
        for one in found[::9]:
            led = [own_pieces_moved((2, 2), one, number) for number in MOVES]
            self.assertEqual(least_seen((2, 2), one), min(led))
            for two in [*found[::7], *led]:
                told = tuple(number for number in MOVES if led[number] == two)
                self.assertEqual(moves_between((2, 2), one, two), told)
                self.assertIs(are_alike(floor=[2, 2], other=listed(two), laying=listed(one)), bool(told))

    def test_unlike(self):
        for floor in FEW_LAYINGS:
            found = all_layings(floor)
            left, told = set(found), []
            for one in found:
                if one in left:
                    told.append(one)
                    left -= {own_pieces_moved(floor, one, number) for number in floor_to_itself(floor)}
            self.assertEqual(unlike_layings(floor), told)
            if floor[0] != floor[1]:
                self.assertEqual(len(unlike_layings(floor[::-1])), len(told))

    def test_unlike_too_many(self):
        self.assertEqual(unlike_layings((1, 7)), sorted(unlike_layings((1, 7))))
        for floor in [(1, 8), (8, 1), (2, 4), (3, 3), (8, 8)]:
            check_raises(self, "TooMany()", unlike_layings, floor)
            check_raises(self, "TooMany()", unlike_layings, floor=list(floor))


class Refusals(unittest.TestCase):
    floors = [*ODD, (0, 1), (1, 0), (), [], (1, 1, 1), 1]
    no_layings = [*ODD, (), [], ONE[:3], ONE[::-1], ONE * 2, 0]

    def test_floors(self):
        check_unfit(self, floor_moved, [None, 99], 0, self.floors)
        check_unfit(self, unlike_layings, [None], 0, self.floors)
        check_unfit(self, least_seen, [None, None], 0, self.floors)
        for function in (cell_moved, block_moved, pieces_moved, moves_between, are_alike):
            check_unfit(self, function, [None, (99, 99), 99], 0, self.floors)

    def test_moves(self):
        check_unfit(self, floor_moved, [(1, 2), None], 1, UNFIT_MOVES)
        check_unfit(self, way_moved, [0, None], 1, UNFIT_MOVES)
        check_unfit(self, move_back, [None], 0, UNFIT_MOVES)
        check_unfit(self, moves_put, [None, 0], 0, UNFIT_MOVES)
        check_unfit(self, moves_put, [0, None], 1, UNFIT_MOVES)
        check_unfit(self, pieces_moved, [(1, 1), ONE, None], 2, UNFIT_MOVES)
        # A MOVE that is none goes ahead of a CELL, a BLOCK that the FLOOR has not.
        for function in (cell_moved, block_moved):
            for spot in ((0, 0), (99, 99)):
                check_unfit(self, function, [(1, 2), spot, None], 2, UNFIT_MOVES)

    def test_ways(self):
        check_unfit(self, way_moved, [None, 0], 0, [*UNFIT_MOVES, 4, 5, 7])

    def test_cells_and_blocks(self):
        for function in (cell_moved, block_moved):
            check_unfit(self, function, [(1, 2), None, 0], 1, [*ODD, (), [], (0,), (0, 0, 0), 0])
        for cell in ((-1, 0), (0, -1), (4, 0), (0, 8)):
            check_raises(self, f"NoCell(cell={cell})", cell_moved, (1, 2), cell, 1)
            check_raises(self, f"NoCell(cell={cell})", cell_moved, [1, 2], list(cell), 1)
        for block in ((-1, 0), (0, -1), (2, 0), (0, 4)):
            check_raises(self, f"NoBlock(block={block})", block_moved, (1, 2), block, 1)
            check_raises(self, f"NoBlock(block={block})", block_moved, [1, 2], list(block), 1)

    def test_pieces(self):
        off = [((0, 0, 0),), ((0, 1, 2),), ((3, 1, 0),), ((4, 4, 0),), ((1, 0, 2),), (*ONE, (-9, 0, 0))]
        odd = [*ODD, 0, (0, 1, 0), ((0, 1),), ((0, 1, 0, 0),), ((0, 1, 4),), (ONE,), *off]
        check_unfit(self, pieces_moved, [(1, 1), None, 0], 1, odd)

    def test_layings(self):
        check_unfit(self, least_seen, [(1, 1), None], 1, self.no_layings)
        for function in (moves_between, are_alike):
            check_unfit(self, function, [(1, 1), None, ONE], 1, self.no_layings)
            check_unfit(self, function, [(1, 1), ONE, None], 2, self.no_layings)
            check_raises(self, "Unfit()", function, (1, 2), some_laying((1, 2)), some_laying((2, 1)))


if __name__ == "__main__":
    unittest.main()
