"""Seams: point [23]."""

import random
import unittest

from teefloors import errors, rises, seams as module
from teefloors.layings import some_laying
from teefloors.seams import (
    faces_on, is_line, nearest_parted, parted_at, pieces_across, put_beside, seams, squares_to_part, ties_across,
)
from tests.helpers import FLOORS, ODD, caught, cells, check_raises, check_transcript, check_unfit, listed
from tests.own import (
    GREAT, RIM, SMALL, as_heights, as_rise, drawn_laying, each_laying, own_faces, own_flat, own_greatest, own_heights,
    own_laying_of_rise, own_layings, own_lot, own_rises, own_sides, own_steps, own_ties,
)
from tests.own_told import heights_of_laying, is_own_laying
from tests.test_squares import LEFT, LONG, ODD_LAYINGS

EXAMPLES = r"""
>>> hill = (((1, 1), (1, 1)), ((2,),))
>>> one = laying_of_rise((2, 2), hill, ())
>>> seams((2, 2), one), len(pieces_across((2, 2), one, (0, 1))), ties_across((2, 2), (0, 1)), faces_on((2, 2), (0, 1)), faces_on((3, 2), (1, 1))
((), 4, (((0, 0), (1, 0)), ((0, 1), (1, 1))), (('inner', 0, 0),), (('inner', 0, 0), ('inner', 1, 0)))
>>> split = nearest_parted((2, 2), one, (0, 1))
>>> rise_of((2, 2), split) == (((1, 1), (1, 1)), ((0,),)), book_of((2, 2), split), seams((2, 2), split), squares_to_part((2, 2), one, (0, 1)), squares_to_part((2, 2), split, (0, 1))
(True, (((0, 0), (0, 1)), ((1, 0), (1, 1))), ((0, 1),), 1, 0)
>>> half = ((0, 2, 0), (0, 6, 0), (1, 0, 1), (1, 4, 2), (2, 3, 0), (2, 7, 3), (3, 1, 2), (3, 5, 2))
>>> parted_at((2, 2), split, (0, 1)) == (half, half), put_beside((1, 2), half, (1, 2), half, 0) == split
(True, True)
>>> plain = ((0, 2, 0), (1, 0, 1), (2, 3, 3), (3, 1, 2))
>>> put_beside((1, 1), plain, (1, 1), plain, 1), seams((1, 2), put_beside((1, 1), plain, (1, 1), plain, 1))
(((0, 2, 0), (0, 6, 0), (1, 0, 1), (1, 4, 1), (2, 3, 3), (2, 7, 3), (3, 1, 2), (3, 5, 2)), ((1, 1),))
>>> [is_line((2, 1), own) for own in ((0, 1), (0, 2), (1, 1), (0, True), [0, 1])]
[True, False, False, False, False]
>>> parted_at((2, 2), one, (1, 1))
raises CanNot()
>>> put_beside((1, 2), half, (1, 1), plain, 0)
raises Unfit()
"""

PLAIN = ((0, 2, 0), (1, 0, 1), (2, 3, 3), (3, 1, 2))
# None of these is a LINE of LONG; (1, 1) is the only one.
UNFIT_LINES = [*ODD, 0, 1, (), [], (1,), (1, 1, 1), (0, 1), (1, 2), (1, 0), (1, -1), (0, 0), (2, 1), (-1, 1), (1, 1.0),
               (1, "1"), ((1, 1),), (1, 10 ** 6), "11", (False, 1), (None, 1)]


def own_lines(floor):
    return [(0, k) for k in range(1, floor[0])] + [(1, k) for k in range(1, floor[1])]


def own_across(laying, line):
    """The PIECES with CELLS on both sides."""
    way, number = line
    return tuple(piece for piece in laying if len({cell[way] < 4 * number for cell in cells(piece)}) == 2)


def own_ties_across(floor, line):
    way, number = line
    return tuple(tie for tie in own_ties(floor) if [end[way] < number for end in tie] == [True, False])


def own_faces_on(floor, line):
    """The INNER FACES that are a side of a TIE across: between two such."""
    found = {side for tie in own_ties_across(floor, line) for side in own_sides(floor, tie)}
    return tuple(sorted(found - {RIM}))


def own_distances(floor, line):
    """The fewest STEPS to each FACE from the RIM or a FACE on the LINE."""
    far = {face: 0 for face in (RIM, *own_faces_on(floor, line))}
    edge, many = sorted(far), 0
    while edge:
        many += 1
        edge = sorted({other for face in edge for other in own_steps(floor)[face] if other not in far})
        far.update({face: many for face in edge})
    return far


def halves(floor, line):
    way, number = line
    if way == 0:
        return (number, floor[1]), (floor[0] - number, floor[1])
    return (floor[0], number), (floor[0], floor[1] - number)


def own_parted(laying, line):
    way, number = line
    first = tuple(piece for piece in laying if piece[way] < 4 * number)
    rest = [list(piece) for piece in laying if piece[way] >= 4 * number]
    for piece in rest:
        piece[way] -= 4 * number
    return first, tuple(sorted(map(tuple, rest)))


class Examples(unittest.TestCase):
    def test_examples(self):
        check_transcript(self, EXAMPLES, [errors, rises, module])


class Lines(unittest.TestCase):
    def test_is_line(self):
        for floor in FLOORS:
            found = [(way, k) for way in range(-1, 4) for k in range(-1, 10) if is_line(floor, (way, k))]
            self.assertEqual(found, own_lines(floor))
            for line in found:
                self.assertIs(is_line(list(floor), line), True)
                self.assertIs(is_line(floor, list(line)), False)
        for thing in UNFIT_LINES:
            self.assertIs(is_line(LONG, thing), False)
        self.assertIs(is_line(thing=(1, 1), floor=[1, 2]), True)
        self.assertIs(is_line((2, 2), (True, 1)), False)
        self.assertIs(is_line((2, 2), (1, True)), False)

    def test_ties_and_faces(self):
        for floor in FLOORS:
            for line in own_lines(floor):
                self.assertEqual(ties_across(floor, line), own_ties_across(floor, line))
                self.assertEqual(faces_on(floor, line), own_faces_on(floor, line))
                self.assertEqual(len(faces_on(floor, line)), len(ties_across(floor, line)) - 1)
        self.assertEqual(ties_across(line=[0, 1], floor=[2, 1]), (((0, 0), (1, 0)),))
        self.assertEqual(faces_on(line=[0, 1], floor=[2, 1]), ())


class Parting(unittest.TestCase):
    def test_across(self):
        for floor, laying in each_laying(4):
            found = []
            for line in own_lines(floor):
                across = own_across(laying, line)
                self.assertEqual(pieces_across(floor, laying, line), across)
                self.assertEqual(across == (), not set(own_lot(laying)) & set(own_ties_across(floor, line)))
                if not across:
                    found.append(line)
                    heights = heights_of_laying(floor, laying)
                    self.assertTrue(all(heights[face] == 0 for face in own_faces_on(floor, line)))
            self.assertEqual(seams(floor, laying), tuple(found))
            self.assertEqual(seams(laying=listed(laying), floor=list(floor)), tuple(found))

    def test_there_and_back(self):
        parted = 0
        for floor, laying in each_laying(4, 400):
            for line in own_lines(floor):
                if own_across(laying, line):
                    check_raises(self, "CanNot()", parted_at, floor, laying, line)
                    continue
                parted += 1
                first, rest = parted_at(floor, laying, line)
                one, two = halves(floor, line)
                self.assertEqual((first, rest), own_parted(laying, line))
                self.assertTrue(is_own_laying(one, first) and is_own_laying(two, rest))
                self.assertEqual(put_beside(one, first, two, rest, line[0]), laying)
                self.assertEqual(parted_at(list(floor), listed(laying), list(line)), (first, rest))
        self.assertGreater(parted, 400)

    def test_put_beside(self):
        draw = random.Random(1)
        for m, n, k in ((1, 1, 1), (1, 2, 3), (2, 2, 1), (3, 1, 2), (4, 5, 4), (8, 8, 8), (3, 3, 2)):
            for floor, other_floor, way in (((m, n), (k, n), 0), ((n, m), (n, k), 1)):
                laying, other = drawn_laying(draw, floor), drawn_laying(draw, other_floor)
                both = put_beside(floor, laying, other_floor, other, way)
                whole = (floor[0] + other_floor[0], floor[1]) if way == 0 else (floor[0], floor[1] + other_floor[1])
                self.assertTrue(is_own_laying(whole, both))
                self.assertEqual(list(both), sorted(both))
                line = (way, floor[way])
                self.assertIn(line, seams(whole, both))
                self.assertEqual(parted_at(whole, both, line), (laying, other))
                self.assertEqual(put_beside(way=way, other=listed(other), other_floor=list(other_floor),
                                            laying=listed(laying), floor=list(floor)), both)

    def test_not_equally_high_or_wide(self):
        for floor, other_floor in (((1, 1), (1, 2)), ((2, 3), (3, 2)), ((2, 2), (4, 2)), ((8, 7), (7, 8))):
            laying, other = some_laying(floor), some_laying(other_floor)
            for way in (0, 1):
                fits = floor[1 - way] == other_floor[1 - way]
                error = caught(put_beside, floor, laying, other_floor, other, way)
                self.assertIs(error is None, fits)
                if not fits:
                    check_raises(self, "Unfit()", put_beside, floor, laying, other_floor, other, way)


class Nearest(unittest.TestCase):
    def test_beside_all_rises(self):
        for floor in SMALL:
            for line in own_lines(floor):
                on = own_faces_on(floor, line)
                fit = [own for own in map(as_heights, own_rises(floor)) if all(own[face] == 0 for face in on)]
                some = own_layings(floor)
                for laying in some[::1 + len(some) // 60]:
                    heights, lot = heights_of_laying(floor, laying), own_lot(laying)
                    many = {as_rise(floor, own): sum(abs(own[face] - heights[face]) for face in own) // 2 for own in fit}
                    least = min(many.values())
                    (rise,) = [own for own in many if many[own] == least]
                    self.assertEqual(squares_to_part(floor, laying, line), least)
                    across = own_ties_across(floor, line)
                    book = [tie for tie in own_flat(floor, rise) if tie in lot and tie not in across]
                    self.assertEqual(nearest_parted(floor, laying, line), own_laying_of_rise(floor, rise, book))

    def test_all_layings_with_the_seam(self):
        """No LAYING of which the LINE is a seam is nearer."""
        for floor in SMALL:
            for line in own_lines(floor):
                parted = [heights_of_laying(floor, own) for own in own_layings(floor) if not own_across(own, line)]
                for laying in own_layings(floor)[::1 + len(own_layings(floor)) // 12]:
                    heights = heights_of_laying(floor, laying)
                    least = min(sum(abs(own[face] - heights[face]) for face in own) // 2 for own in parted)
                    self.assertEqual(squares_to_part(floor, laying, line), least)

    def test_greater_floors(self):
        for floor in GREAT:
            draw = random.Random(str(floor))
            for _ in range(3):
                laying, line = drawn_laying(draw, floor), draw.choice(own_lines(floor))
                far, heights = own_distances(floor, line), own_heights(floor, laying)
                nearest = {face: sorted((-far[face], heights[face], far[face]))[1] for face in own_faces(floor)}
                lot, across = own_lot(laying), own_ties_across(floor, line)
                rise = as_rise(floor, nearest)
                book = [tie for tie in own_flat(floor, rise) if tie in lot and tie not in across]
                found = nearest_parted(floor, laying, line)
                self.assertEqual(found, own_laying_of_rise(floor, rise, book))
                self.assertIn(line, seams(floor, found))
                self.assertEqual(squares_to_part(floor, laying, line),
                                 sum(abs(nearest[face] - heights[face]) for face in heights) // 2)
                self.assertEqual(squares_to_part(floor, found, line), 0)
                self.assertEqual(nearest_parted(floor, found, line), found)
                self.assertEqual(nearest_parted(line=list(line), laying=listed(laying), floor=list(floor)), found)

    def test_of_the_greatest(self):
        for floor in FLOORS:
            high = own_greatest(floor)
            laying = own_laying_of_rise(floor, as_rise(floor, high), ())
            for line in own_lines(floor):
                far = own_distances(floor, line)
                self.assertEqual(squares_to_part(floor, laying, line), sum(high[face] - far[face] for face in high) // 2)


class Refusals(unittest.TestCase):
    def test_floors(self):
        odd = [*ODD, (0, 1), (1, 0), (), [], (1, 1, 1), 1]
        for function, more in {
            is_line: [(1, 1)], ties_across: [(1, 1)], faces_on: [(1, 1)], pieces_across: [LEFT, (1, 1)], seams: [LEFT],
            parted_at: [LEFT, (1, 1)], put_beside: [LEFT, LONG, LEFT, 0], nearest_parted: [LEFT, (1, 1)],
            squares_to_part: [LEFT, (1, 1)],
        }.items():
            check_unfit(self, function, [None, *more], 0, odd)
        check_unfit(self, put_beside, [LONG, LEFT, None, LEFT, 0], 2, odd)

    def test_layings(self):
        for function, more in {
            pieces_across: [(1, 1)], seams: [], parted_at: [(1, 1)], put_beside: [LONG, LEFT, 0],
            nearest_parted: [(1, 1)], squares_to_part: [(1, 1)],
        }.items():
            check_unfit(self, function, [LONG, None, *more], 1, ODD_LAYINGS)
        check_unfit(self, put_beside, [LONG, LEFT, LONG, None, 0], 3, ODD_LAYINGS)
        check_raises(self, "Unfit()", put_beside, (1, 1), PLAIN, (1, 1), LEFT, 0)

    def test_lines(self):
        for function in (ties_across, faces_on):
            check_unfit(self, function, [LONG, None], 1, UNFIT_LINES)
            check_raises(self, "Unfit()", function, (1, 1), (0, 0))
        # LEFT has no seam but (1, 1): Unfit() is ahead of CanNot().
        for function in (pieces_across, parted_at, nearest_parted, squares_to_part):
            check_unfit(self, function, [LONG, LEFT, None], 2, UNFIT_LINES)

    def test_ways(self):
        odd = [*[value for value in ODD if value is not True and value is not False], True, False, -1, 2, 3, (), [],
               (0,), "0", 0.0, 10 ** 6]
        check_unfit(self, put_beside, [LONG, LEFT, LONG, LEFT, None], 4, odd)


if __name__ == "__main__":
    unittest.main()
