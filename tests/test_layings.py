"""Layings: point [7]."""

import random
import unittest
import unittest.mock

from teefloors import errors, layings
from teefloors.layings import (
    all_layings, first_gap, first_overlap, is_laying, piece_at, piece_of_block, plain_layings, some_laying,
)
from teefloors.mirrored import unlike_layings
from teefloors.pieces import four_of
from tests.helpers import (
    FEW_LAYINGS, FLOORS, ODD, cells, check_raises, check_transcript, check_unfit, found_layings, listed,
)

EXAMPLES = r"""
>>> one, two = all_layings((1, 1))
>>> one, two, is_laying((1, 1), one), is_laying((1, 1), one[::-1]), is_laying((1, 1), list(one)), is_laying((1, 2), one), is_laying((1, 1), one[:3])
(((0, 1, 0), (1, 3, 3), (2, 0, 1), (3, 2, 2)), ((0, 2, 0), (1, 0, 1), (2, 3, 3), (3, 1, 2)), True, False, False, False, False)
>>> first_gap((1, 1), one), first_gap((1, 1), one[1:]), first_gap((1, 1), ()), first_gap((1, 2), one), first_overlap((1, 1), one + two), first_overlap((1, 1), one), first_overlap((1, 1), one[3:] * 2)
(None, (0, 0), (0, 0), (0, 4), (0, 0), None, (2, 2))
>>> piece_at((1, 1), one, (0, 0)), piece_at((1, 1), two, (0, 0)), piece_of_block((1, 1), one, (0, 0)), piece_of_block((1, 1), two, (1, 0))
((0, 1, 0), (1, 0, 1), (0, 1, 0), (3, 1, 2))
>>> [len(all_layings(own)) for own in ((1, 2), (1, 3), (2, 2))], len(plain_layings(4, 8)), plain_layings(6, 6), plain_layings(2, 6), plain_layings(4, 4) == [one, two]
([6, 18, 84], 6, [], [], True)
>>> is_laying((8, 8), some_laying((8, 8))), len(some_laying((3, 5)))
(True, 60)
>>> piece_at((1, 1), one, (4, 0))
raises NoCell(cell=(4, 0))
>>> all_layings((2, 4))
raises TooMany()
"""

ONE = ((0, 1, 0), (1, 3, 3), (2, 0, 1), (3, 2, 2))
UNFIT_PIECES = [
    *ODD, 0, 1, (0, 1, 0), [0, 1, 0], ((0, 1),), ((0, 1, 0, 0),), ((0, 1, 4),), (((0, 1, 0),),), (ONE, ONE),
    ((True, 1, 0),),
]


def field(floor):
    return {(x, y) for x in range(4 * floor[0]) for y in range(4 * floor[1])}


def own_is_laying(floor, value):
    """Whether a tuple of PIECES is a LAYING, word by word."""
    covered = [cell for piece in value for cell in cells(piece)]
    return list(value) == sorted(set(value)) and sorted(covered) == sorted(field(floor))


def drawn_pieces(draw, floor, many):
    xs, ys = range(-3, 4 * floor[0] + 3), range(-3, 4 * floor[1] + 3)
    return tuple((draw.choice(xs), draw.choice(ys), draw.randrange(4)) for _ in range(many))


class AllLayings(unittest.TestCase):
    def test_examples(self):
        check_transcript(self, EXAMPLES, [errors, layings])

    def test_beside_a_search(self):
        for floor, many in FEW_LAYINGS.items():
            found = all_layings(floor)
            self.assertEqual(found, found_layings(4 * floor[0], 4 * floor[1]))
            self.assertEqual(len(found), many)

    def test_just_those_up_to_2000(self):
        self.assertEqual(len(all_layings((1, 6))), 486)
        for floor in ((1, 7), (7, 1)):
            found = all_layings(floor)
            self.assertEqual(len(set(found)), 1458)
            self.assertEqual(found, sorted(found))
            self.assertTrue(all(is_laying(floor, one) for one in found))

    def test_too_many(self):
        few = {*FEW_LAYINGS, (1, 6), (6, 1), (1, 7), (7, 1)}
        for floor in [*FLOORS, (1, 9), (9, 1), (1, 10), (10, 1), (1, 11), (12, 1), (9, 9), (100, 100)]:
            if floor not in few:
                check_raises(self, "TooMany()", all_layings, floor)
                check_raises(self, "TooMany()", all_layings, floor=list(floor))

    def test_refused_without_a_search(self):
        with unittest.mock.patch.object(layings, "coverings", side_effect=AssertionError("a search")):
            for function in (all_layings, unlike_layings):
                for floor in ((3, 3), (2, 4), (4, 2), (1, 8), (8, 1), (8, 8), (10 ** 9, 10 ** 9)):
                    check_raises(self, "TooMany()", function, floor)
                    check_raises(self, "TooMany()", function, list(floor))

    def test_guarantees(self):
        for floor in FEW_LAYINGS:
            blocks = [(i, j) for i in range(2 * floor[0]) for j in range(2 * floor[1])]
            found = all_layings(floor)
            self.assertGreaterEqual(len(found), 2 ** (floor[0] * floor[1]))
            can_lie = {own for block in blocks for own in four_of(floor, block)}
            self.assertEqual({own for laying in found for own in laying}, can_lie)

    def test_some_laying(self):
        for floor in FLOORS + [(9, 10), (1, 20)]:
            laying = some_laying(floor)
            self.assertIsInstance(laying, tuple)
            self.assertTrue(own_is_laying(floor, laying))
            self.assertTrue(is_laying(floor, laying))
            self.assertEqual(some_laying(floor=list(floor)), laying)

    def test_side_by_side(self):
        for one in all_layings((1, 1)):
            for two in all_layings((1, 2)):
                put = tuple(sorted(one + tuple((x, y + 4, way) for x, y, way in two)))
                self.assertTrue(is_laying((1, 3), put))
                self.assertIn(put, all_layings((1, 3)))


class PlainLayings(unittest.TestCase):
    def test_all_fields(self):
        for many in range(1, 65):
            for high in range(1, 64 // many + 1):
                found = plain_layings(many, high)
                self.assertIsInstance(found, list)
                self.assertEqual(bool(found), many % 4 == 0 and high % 4 == 0)
                self.assertEqual(found, found_layings(many, high))
                if found:
                    self.assertEqual(found, all_layings((many // 4, high // 4)))

    def test_by_name(self):
        self.assertEqual(len(plain_layings(high=16, many=4)), 54)
        self.assertEqual(plain_layings(high=64, many=1), [])

    def test_unfit(self):
        for many, high in [(0, 4), (4, 0), (-4, 4), (4, -4), (-8, -8), (8, 9), (65, 1), (1, 65), (4, 10 ** 40), (0, 0)]:
            check_raises(self, "Unfit()", plain_layings, many, high)
        # 8 is a fit number here.
        odd = [value for value in ODD if value != 8]
        check_unfit(self, plain_layings, [4, 4], 0, [*odd, (), [4], "4", 4.0])
        check_unfit(self, plain_layings, [4, 4], 1, [*odd, (), [4], "4", 4.0])


class IsLaying(unittest.TestCase):
    def test_all(self):
        for floor in [(1, 1), (1, 2), (2, 1), (2, 2)]:
            for laying in all_layings(floor):
                self.assertIs(is_laying(floor, laying), True)
                self.assertIs(is_laying(thing=laying, floor=list(floor)), True)
                self.assertIs(is_laying(floor, laying[1:]), False)
                self.assertIs(is_laying(floor, laying[:-1]), False)
                self.assertIs(is_laying(floor, laying[1:] + laying[:1]), False)
                self.assertIs(is_laying(floor, laying[:1] + laying), False)
                self.assertIs(is_laying(floor, laying[:1] + laying[:-1]), False)
                self.assertIs(is_laying(floor, list(laying)), False)
                self.assertIs(is_laying(floor, tuple(list(own) for own in laying)), False)
                self.assertIs(is_laying(floor, (list(laying[0]), *laying[1:])), False)
                self.assertIs(is_laying((floor[0], floor[1] + 1), laying), False)

    def test_one_piece_changed(self):
        for floor in [(1, 1), (1, 2), (2, 1)]:
            for laying in all_layings(floor):
                for at in range(len(laying)):
                    drawn = drawn_pieces(random.Random(at), floor, 40)
                    for value in [*drawn, *four_pieces(laying[at]), None, (), (0, 0)]:
                        thing = laying[:at] + (value,) + laying[at + 1:]
                        sound = isinstance(value, tuple) and len(value) == 3
                        self.assertIs(is_laying(floor, thing), sound and own_is_laying(floor, thing))

    def test_moved_off_the_floor(self):
        for dx, dy in ((4, 0), (0, 4), (-4, 0), (0, -4), (1, 0)):
            self.assertIs(is_laying((1, 1), tuple((x + dx, y + dy, way) for x, y, way in ONE)), False)

    def test_true_is_no_number(self):
        self.assertIs(is_laying((1, 1), ((False, 1, 0), *ONE[1:])), False)
        self.assertIs(is_laying((1, 1), ((0, True, 0), *ONE[1:])), False)
        self.assertIs(is_laying((1, 1), ((0, 1, False), *ONE[1:])), False)
        self.assertIs(is_laying((1, 1), ((0, 1, 0.0), *ONE[1:])), False)

    def test_any_value(self):
        for thing in [*ODD, (), (ONE,), ONE * 1000, tuple(range(4)), ((0, 1, 0),) * 4, "abcd", ("a", "b", "c", "d")]:
            self.assertIs(is_laying((1, 1), thing), False)
        self.assertIs(is_laying((9, 9), some_laying((9, 9))), True)

    def test_unfit_floor(self):
        for odd in [*ODD, (0, 1), (), [], (1, 1, 1)]:
            for thing in (ONE, None, ()):
                check_raises(self, "Unfit()", is_laying, odd, thing)


def four_pieces(piece):
    return [(piece[0], piece[1], way) for way in range(4)]


class Gaps(unittest.TestCase):
    def check(self, floor, pieces):
        covered = [cell for piece in pieces for cell in cells(piece)]
        gaps = sorted(field(floor) - set(covered))
        twice = sorted(cell for cell in field(floor) if covered.count(cell) > 1)
        self.assertEqual(first_gap(floor, pieces), gaps[0] if gaps else None)
        self.assertEqual(first_overlap(floor, pieces), twice[0] if twice else None)
        self.assertEqual(first_gap(pieces=listed(pieces), floor=list(floor)), gaps[0] if gaps else None)
        self.assertEqual(first_overlap(pieces=listed(pieces), floor=list(floor)), twice[0] if twice else None)
        return gaps, twice

    def test_drawn(self):
        for seed in range(400):
            draw = random.Random(seed)
            floor = draw.choice([(1, 1), (1, 2), (2, 1), (2, 2)])
            self.check(floor, drawn_pieces(draw, floor, draw.randrange(20)))

    def test_layings_changed(self):
        for seed in range(400):
            draw = random.Random(seed)
            floor = draw.choice([(1, 1), (1, 2), (2, 1), (2, 2)])
            pieces = list(draw.choice(all_layings(floor)))
            draw.shuffle(pieces)
            gaps, twice = self.check(floor, tuple(pieces))
            self.assertFalse(gaps or twice)
            at = draw.randrange(len(pieces))
            x, y, way = pieces[at]
            self.check(floor, tuple(pieces[:at] + pieces[at + 1:]))
            self.check(floor, tuple(pieces + pieces[at:at + 1]))
            moved = draw.choice([(x + 1, y, way), (x, y - 1, way), (x, y, (way + 1) % 4), (x + 100, y, way)])
            gaps, twice = self.check(floor, tuple(pieces[:at] + [moved] + pieces[at + 1:]))
            self.assertTrue(gaps)
            if all(cell in field(floor) for cell in cells(moved)):
                self.assertTrue(twice)

    def test_off_the_floor(self):
        self.assertEqual(first_gap((1, 1), ((100, 100, 0), (-5, -5, 1))), (0, 0))
        self.assertIsNone(first_overlap((1, 1), ((100, 100, 0), (100, 100, 0), (10 ** 40, 0, 0))))
        self.assertEqual(first_overlap((1, 1), ((-1, 0, 0), (-1, 0, 0))), (0, 0))

    def test_unfit(self):
        for function in (first_gap, first_overlap):
            check_unfit(self, function, [None, ()], 0, [*ODD, (0, 1), (), []])
            check_unfit(self, function, [(1, 1), None], 1, UNFIT_PIECES)


class PiecesOfALaying(unittest.TestCase):
    def test_piece_at(self):
        for floor in [(1, 1), (1, 2), (2, 1)]:
            for laying in all_layings(floor):
                for cell in sorted(field(floor)):
                    (own,) = [piece for piece in laying if cell in cells(piece)]
                    self.assertEqual(piece_at(floor, laying, cell), own)
                    self.assertEqual(piece_at(cell=list(cell), laying=listed(laying), floor=list(floor)), own)

    def test_piece_of_block(self):
        for floor in [(1, 1), (1, 2), (2, 1), (2, 2)]:
            for laying in all_layings(floor):
                seen = []
                for i, j in [(i, j) for i in range(2 * floor[0]) for j in range(2 * floor[1])]:
                    block = {(x, y) for x in (2 * i, 2 * i + 1) for y in (2 * j, 2 * j + 1)}
                    (own,) = [piece for piece in laying if len(cells(piece) & block) == 3]
                    self.assertEqual(piece_of_block(floor, laying, (i, j)), own)
                    self.assertIn(own, four_of(floor, (i, j)))
                    seen.append(own)
                self.assertEqual(sorted(seen), list(laying))

    def test_greatest_floor(self):
        laying = some_laying((8, 8))
        self.assertIn((31, 31), cells(piece_at((8, 8), laying, (31, 31))))
        self.assertEqual(piece_of_block((8, 8), laying, (15, 15))[0] // 2, 15)

    def test_refusals(self):
        no_layings = [*UNFIT_PIECES, (), [], ONE[:3], ONE[::-1], ONE * 2]
        for function in (piece_at, piece_of_block):
            check_unfit(self, function, [None, ONE, (99, 99)], 0, [*ODD, (0, 1), (), []])
            check_unfit(self, function, [(1, 1), None, (99, 99)], 1, no_layings)
            check_unfit(self, function, [(1, 1), ONE, None], 2, [*ODD, (), [], (0,), (0, 0, 0), 0, ((0, 0),)])
            check_raises(self, "Unfit()", function, (1, 2), ONE, (0, 0))
        for cell in ((-1, 0), (0, -1), (4, 0), (0, 4)):
            check_raises(self, f"NoCell(cell={cell})", piece_at, (1, 1), ONE, cell)
            check_raises(self, f"NoCell(cell={cell})", piece_at, (1, 1), listed(ONE), list(cell))
        for block in ((-1, 0), (0, -1), (2, 0), (0, 2)):
            check_raises(self, f"NoBlock(block={block})", piece_of_block, (1, 1), ONE, block)
            check_raises(self, f"NoBlock(block={block})", piece_of_block, (1, 1), listed(ONE), list(block))

    def test_floors_alone(self):
        for function in (some_laying, all_layings):
            check_unfit(self, function, [None], 0, [*ODD, (0, 1), (1, 0), (), [], (1, 1, 1)])


if __name__ == "__main__":
    unittest.main()
