"""Floors: point [5]."""

import unittest

from teefloors import errors, floors
from teefloors.floors import (
    block_of, blocks_at, cells_of_block, dot_of, ends, faces, is_block, is_cell, is_face, is_floor, is_tie,
    outer_of, sides, site, sizes, ties, touching,
)
from tests.helpers import FLOORS, ODD, check_raises, check_transcript, check_unfit, listed

EXAMPLES = r"""
>>> faces((2, 1)), ties((2, 2)), sizes((2, 3)), sizes((1, 1))
((('dot', 0, 0), ('dot', 1, 0), ('rim',)), (((0, 0), (0, 1)), ((0, 0), (1, 0)), ((0, 1), (1, 1)), ((1, 0), (1, 1))), (96, 24, 9, 7), (16, 4, 2, 0))
>>> block_of((2, 1), (5, 3)), cells_of_block((2, 1), (2, 1)), dot_of((2, 1), (2, 1)), outer_of((2, 1), (2, 1)), outer_of((2, 2), (2, 1)), outer_of((2, 2), (3, 1))
((2, 1), ((4, 2), (4, 3), (5, 2), (5, 3)), ('dot', 1, 0), ('rim',), ('inner', 0, 0), ('rim',))
>>> blocks_at((2, 2), ("inner", 0, 0)), touching((2, 2), ("inner", 0, 0)), touching((2, 2), ("dot", 0, 1)), len(blocks_at((2, 2), ("rim",)))
(((1, 1), (1, 2), (2, 1), (2, 2)), (('dot', 0, 0), ('dot', 0, 1), ('dot', 1, 0), ('dot', 1, 1)), (('inner', 0, 0), ('rim',)), 12)
>>> ends((2, 2), ((0, 0), (1, 0))), sides((2, 2), ((0, 0), (1, 0))), sides((2, 2), ((1, 0), (1, 1))), sides((2, 1), ((0, 0), (1, 0))), site((2, 2), ((0, 0), (0, 1)))
((('dot', 0, 0), ('dot', 1, 0)), (('rim',), ('inner', 0, 0)), (('inner', 0, 0), ('rim',)), (('rim',), ('rim',)), ((0, 1), (0, 2), (1, 1), (1, 2)))
>>> is_floor((2, 0)), is_floor([2, 1]), is_cell((1, 1), (3, 4)), is_face((2, 1), ("inner", 0, 0)), is_face((2, 1), ("rim",)), is_tie((2, 2), ((1, 0), (0, 0)))
(False, False, False, False, True, False)
>>> block_of((1, 1), (4, 0))
raises NoCell(cell=(4, 0))
>>> blocks_at((2, 1), ("inner", 0, 0))
raises NoFace(face=('inner', 0, 0))
>>> site((2, 2), ((0, 0), (1, 1)))
raises NoTie(tie=((0, 0), (1, 1)))
"""

RIM = ("rim",)


def corners(block):
    """The four corners of a BLOCK, as points on the lines between BLOCKS."""
    i, j = block
    return {(i, j), (i, j + 1), (i + 1, j), (i + 1, j + 1)}


def face_point(face):
    """Where the BLOCKS at a DOT or an INNER FACE meet."""
    word, i, j = face
    return (2 * i + 1, 2 * j + 1) if word == "dot" else (2 * i + 2, 2 * j + 2)


def own_blocks(floor):
    return [(i, j) for i in range(2 * floor[0]) for j in range(2 * floor[1])]


def own_faces(floor):
    """All FACES, by point: DOTS lie at odd points, INNER FACES at even ones within the floor."""
    m, n = floor
    dots = [("dot", i, j) for i in range(m) for j in range(n)]
    inners = [("inner", i, j) for i in range(m - 1) for j in range(n - 1)]
    return sorted([*dots, *inners, RIM])


def own_ties(floor):
    m, n = floor
    dots = [(i, j) for i in range(m) for j in range(n)]
    beside = [(one, two) for one in dots for two in dots if abs(one[0] - two[0]) + abs(one[1] - two[1]) == 1]
    return sorted([pair for pair in beside if pair[0] < pair[1]])


class Examples(unittest.TestCase):
    def test_examples(self):
        check_transcript(self, EXAMPLES, [errors, floors])


class Guarantees(unittest.TestCase):
    def test_sizes(self):
        for m, n in FLOORS:
            many_faces = m * n + (m - 1) * (n - 1) + 1
            self.assertEqual(sizes((m, n)), (16 * m * n, 4 * m * n, many_faces, 2 * m * n - m - n))
            self.assertEqual(len(faces((m, n))), many_faces)
            self.assertEqual(len(ties((m, n))), 2 * m * n - m - n)

    def test_faces_and_ties(self):
        for floor in FLOORS:
            self.assertEqual(faces(floor), tuple(own_faces(floor)))
            self.assertEqual(ties(floor), tuple(own_ties(floor)))

    def test_cells_and_blocks(self):
        for floor in FLOORS:
            seen = []
            for block in own_blocks(floor):
                cells = cells_of_block(floor, block)
                self.assertEqual(cells, tuple(sorted(cells)))
                self.assertEqual(len(cells), 4)
                self.assertEqual([block_of(floor, cell) for cell in cells], [block] * 4)
                self.assertEqual(cells[0], (2 * block[0], 2 * block[1]))
                self.assertEqual(cells[3], (2 * block[0] + 1, 2 * block[1] + 1))
                seen.extend(cells)
            m, n = floor
            self.assertEqual(sorted(seen), [(x, y) for x in range(4 * m) for y in range(4 * n)])

    def test_what_a_block_touches(self):
        for floor in FLOORS:
            for block in own_blocks(floor):
                touched = [face for face in own_faces(floor) if face != RIM and face_point(face) in corners(block)]
                outer = [face for face in touched if face[0] == "inner"] or [RIM]
                self.assertEqual([dot_of(floor, block)], [face for face in touched if face[0] == "dot"])
                self.assertEqual([outer_of(floor, block)], outer)

    def test_blocks_at_a_face(self):
        for floor in FLOORS:
            for face in own_faces(floor):
                blocks = [own for own in own_blocks(floor) if face in (dot_of(floor, own), outer_of(floor, own))]
                self.assertEqual(blocks_at(floor, face), tuple(blocks))
                if face != RIM:
                    self.assertEqual(len(blocks), 4)
                others = {dot_of(floor, own) for own in blocks} | {outer_of(floor, own) for own in blocks}
                self.assertEqual(touching(floor, face), tuple(sorted(others - {face})))

    def test_ties(self):
        for floor in FLOORS:
            for tie in own_ties(floor):
                (i, j), (k, h) = tie
                self.assertEqual(ends(floor, tie), (("dot", i, j), ("dot", k, h)))
                # The four BLOCKS beside the middle of the line between both DOTS.
                meet = (i + k + 1, j + h + 1)
                beside = [own for own in own_blocks(floor) if meet in corners(own)]
                self.assertEqual(site(floor, tie), tuple(beside))
                self.assertEqual(len(beside), 4)
                south_or_west, north_or_east = beside[0], beside[1] if k > i else beside[2]
                told = (outer_of(floor, south_or_west), outer_of(floor, north_or_east))
                self.assertEqual(sides(floor, tie), told)
                # The two of each side touch one outer FACE.
                by_side = [(beside[0], beside[2]), (beside[1], beside[3])]
                if k == i:
                    by_side = [(beside[0], beside[1]), (beside[2], beside[3])]
                for side, (one, two) in zip(told, by_side):
                    self.assertEqual((outer_of(floor, one), outer_of(floor, two)), (side, side))

    def test_sites_of_a_block(self):
        for floor in FLOORS:
            m, n = floor
            sites = [site(floor, tie) for tie in ties(floor)]
            for i, j in own_blocks(floor):
                many = sum((i, j) in own for own in sites)
                at_rim = i in (0, 2 * m - 1) or j in (0, 2 * n - 1)
                self.assertLessEqual(many, 2)
                self.assertEqual(many < 2, at_rim)


class Things(unittest.TestCase):
    def test_floors(self):
        for thing in [(1, 1), (8, 8), (9, 1), (1, 300), (10 ** 40, 10 ** 40)]:
            self.assertIs(is_floor(thing), True)
            self.assertIs(is_floor(listed(thing)), False)
        for thing in [(0, 1), (1, 0), (-1, 1), (1, -1), (1,), (1, 1, 1), (), 1, ((1, 1), (1, 1)), *ODD]:
            self.assertIs(is_floor(thing), False)
        self.assertIs(is_floor(thing=(1, 1)), True)

    def test_cells(self):
        self.check_things(is_cell, (2, 3), [(x, y) for x in range(8) for y in range(12)], pairs())

    def test_blocks(self):
        self.check_things(is_block, (2, 3), [(i, j) for i in range(4) for j in range(6)], pairs())

    def test_faces(self):
        forms = [(word, i, j) for word in ("dot", "inner", "rim") for i, j in pairs(5)]
        self.check_things(is_face, (2, 3), own_faces((2, 3)), forms + [("inner", 10 ** 40, 0)])
        self.check_things(is_face, (1, 3), own_faces((1, 3)), forms)

    def test_ties(self):
        forms = [(one, two) for one in pairs(5) for two in pairs(5)]
        self.check_things(is_tie, (2, 3), own_ties((2, 3)), forms)
        self.check_things(is_tie, (1, 1), [], forms)

    def check_things(self, function, floor, good, forms):
        for thing in good:
            self.assertIs(function(floor, thing), True, thing)
            self.assertIs(function(listed(floor), thing=thing), True, thing)
            self.assertIs(function(floor=floor, thing=listed(thing)), False, thing)
        for thing in forms:
            self.assertIs(function(floor, thing), thing in good, thing)
        for thing in [*ODD, (), ((),) * 3, good, tuple(good * 40), (10 ** 40, -10 ** 40)]:
            self.assertIs(function(floor, thing), False)
        for odd in [*ODD, (0, 1), (1,), (1, 1, 1), (), []]:
            for thing in (good[:1], None, (0, 0)):
                check_raises(self, "Unfit()", function, odd, thing)


def pairs(beyond=15):
    return [(x, y) for x in range(-2, beyond) for y in range(-2, beyond)]


class Refusals(unittest.TestCase):
    floor = (2, 3)
    with_block = [cells_of_block, dot_of, outer_of]
    with_face = [blocks_at, touching]
    with_tie = [ends, sides, site]

    def test_floor_ahead_of_all(self):
        for odd in [*ODD, (0, 1), (1, 0), (1,), (1, 1, 1), (), []]:
            for function in (sizes, faces, ties):
                check_raises(self, "Unfit()", function, odd)
            for function in (block_of, *self.with_block, *self.with_face, *self.with_tie):
                for other in ((9, 99), ("dot", 9, 99), ((9, 99), (9, 100)), None):
                    check_raises(self, "Unfit()", function, odd, other)

    def test_no_such_values(self):
        numbers = [(), [], (0,), (0, 0, 0), ((0, 0), (1, 0)), 0, 1]
        for function in (block_of, *self.with_block):
            check_unfit(self, function, [self.floor, None], 1, [*ODD, *numbers, ("dot", 0, 0)])
        for function in self.with_face:
            check_unfit(self, function, [self.floor, None], 1, [*ODD, *numbers, (0, 0), ("RIM",), ["dot", [0], 0]])
        for function in self.with_tie:
            odd = [(), [], (0, 0), ((0, 0),), ((0, 0),) * 3, ("dot", 0, 0), [(0, 0), [0, [1]]], [[0, 0], [0, 1], []]]
            check_unfit(self, function, [self.floor, None], 1, [*ODD, *odd])

    def test_no_cell(self):
        for cell in ((-1, 0), (0, -1), (8, 0), (0, 12), (10 ** 40, 0)):
            check_raises(self, f"NoCell(cell={cell})", block_of, self.floor, cell)
            check_raises(self, f"NoCell(cell={cell})", block_of, cell=list(cell), floor=[2, 3])

    def test_no_block(self):
        for function in self.with_block:
            for block in ((-1, 0), (0, -1), (4, 0), (0, 6), (3, -10 ** 40)):
                check_raises(self, f"NoBlock(block={block})", function, self.floor, block)
                check_raises(self, f"NoBlock(block={block})", function, block=list(block), floor=[2, 3])

    def test_no_face(self):
        for function in self.with_face:
            dots = [("dot", 2, 0), ("dot", 0, 3), ("dot", -1, 0)]
            for face in [*dots, ("inner", 1, 0), ("inner", 0, 2), ("inner", 0, -1)]:
                check_raises(self, f"NoFace(face={face})", function, self.floor, face)
                check_raises(self, f"NoFace(face={face})", function, face=list(face), floor=[2, 3])
            check_raises(self, "NoFace(face=('inner', 0, 0))", function, (1, 5), ("inner", 0, 0))

    def test_no_tie(self):
        others = [
            ((0, 0), (1, 1)), ((0, 0), (0, 0)), ((1, 0), (0, 0)), ((0, 1), (0, 0)), ((1, 0), (2, 0)), ((0, 2), (0, 3)),
            ((0, 0), (0, 2)), ((-1, 0), (0, 0)), ((0, -1), (0, 0)), ((9, 9), (9, 10)),
        ]
        for function in self.with_tie:
            for tie in others:
                check_raises(self, f"NoTie(tie={tie})", function, self.floor, tie)
                check_raises(self, f"NoTie(tie={tie})", function, tie=listed(tie), floor=[2, 3])


if __name__ == "__main__":
    unittest.main()
