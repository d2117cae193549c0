"""Pieces: point [6]."""

import unittest

from teefloors import errors, pieces
from teefloors.pieces import (
    can_lie, cells_of, four_of, goes_to, is_piece, left_out, on_floor, own_block, piece_to, sign_of, tie_told,
)
from tests.helpers import FLOORS, ODD, STEPS, cells, check_raises, check_transcript, check_unfit, listed

EXAMPLES = r"""
>>> cells_of((2, 3, 3)), cells_of((0, 0, 0)), on_floor((1, 1), (0, 0, 0)), is_piece((0, 0, 4))
(((1, 3), (2, 2), (2, 3), (3, 3)), ((0, -1), (0, 0), (0, 1), (1, 0)), False, False)
>>> four_of((1, 1), (0, 0)), four_of((2, 1), (1, 1))
(((0, 1, 0), (1, 0, 1)), ((2, 3, 3), (3, 2, 1), (3, 2, 2)))
>>> [(own_block((2, 1), own), goes_to((2, 1), own), sign_of((2, 1), own)) for own in four_of((2, 1), (1, 1))]
[((1, 1), (0, 1), 1), ((1, 1), (2, 1), -1), ((1, 1), (1, 0), -1)]
>>> [tie_told((2, 1), own) for own in four_of((2, 1), (1, 1))]
[None, (((0, 0), (1, 0)), 'tied'), (((0, 0), (1, 0)), 'cut')]
>>> tie_told((2, 2), (2, 3, 3)), tie_told((2, 2), (2, 3, 0)), left_out((2, 1), (2, 3, 3)), can_lie((1, 1), (1, 1, 0)), can_lie((1, 1), (0, 1, 1))
((((0, 0), (0, 1)), 'cut'), (((0, 0), (0, 1)), 'tied'), (3, 2), False, False)
>>> piece_to((2, 1), (1, 1), (2, 1)), piece_to((2, 1), (2, 1), (1, 1))
((3, 2, 1), (4, 2, 1))
>>> goes_to((1, 1), (1, 1, 0))
raises CanNot()
>>> piece_to((2, 1), (1, 1), (2, 0))
raises CanNot()
>>> four_of((2, 1), (4, 0))
raises NoBlock(block=(4, 0))
"""

OF_PIECES = [own_block, left_out, goes_to, sign_of, tie_told]


def block_cells(block):
    i, j = block
    return {(x, y) for x in (2 * i, 2 * i + 1) for y in (2 * j, 2 * j + 1)}


def own_told(piece):
    """(block, sign, cell left out, block gone to) of one of the four PIECES of a BLOCK, word by word; else None."""
    x, y, _ = piece
    block = (x // 2, y // 2)
    e = 1 if block[0] % 2 else -1
    f = 1 if block[1] % 2 else -1
    for sign in (1, -1):
        middle = (2 * block[0] + (1 if 0 - f * sign == 1 else 0), 2 * block[1] + (1 if e * sign == 1 else 0))
        if middle != (x, y):
            continue
        across = [cell for cell in block_cells(block) if cell[0] != x and cell[1] != y][0]
        missing = block_cells(block) - cells(piece)
        if missing == {across}:
            (more,) = cells(piece) - block_cells(block)
            return block, sign, across, (more[0] // 2, more[1] // 2)
    return None


def own_tie(floor, piece):
    """What a PIECE that can lie tells of a TIE, word by word."""
    block, _, _, other = own_told(piece)
    dot = (block[0] // 2, block[1] // 2)
    if (other[0] // 2, other[1] // 2) != dot:
        return (tuple(sorted([dot, (other[0] // 2, other[1] // 2)])), "tied")
    beside = [(piece[0] + dx, piece[1] + dy) for dx, dy in STEPS]
    around = {(x // 2, y // 2) for x, y in beside} - {block, other}
    dots = [(i // 2, j // 2) for i, j in around if 0 <= i < 2 * floor[0] and 0 <= j < 2 * floor[1]]
    return (tuple(sorted([dot, dots[0]])), "cut") if dots else None


def all_pieces(floor, beyond=2):
    m, n = floor
    xs, ys = range(-beyond, 4 * m + beyond), range(-beyond, 4 * n + beyond)
    return [(x, y, way) for x in xs for y in ys for way in range(4)]


def inside(floor, cell):
    return 0 <= cell[0] < 4 * floor[0] and 0 <= cell[1] < 4 * floor[1]


class Pieces(unittest.TestCase):
    def test_examples(self):
        check_transcript(self, EXAMPLES, [errors, pieces])

    def test_cells(self):
        for piece in all_pieces((1, 1)) + [(10 ** 40, -10 ** 40, 2)]:
            self.assertEqual(cells_of(piece), tuple(sorted(cells(piece))))

    def test_stem_and_bar(self):
        self.assertEqual(cells_of((5, 5, 0)), ((5, 4), (5, 5), (5, 6), (6, 5)))
        self.assertEqual(cells_of((5, 5, 1)), ((4, 5), (5, 5), (5, 6), (6, 5)))
        self.assertEqual(cells_of((5, 5, 2)), ((4, 5), (5, 4), (5, 5), (5, 6)))
        self.assertEqual(cells_of((5, 5, 3)), ((4, 5), (5, 4), (5, 5), (6, 5)))

    def test_is_piece(self):
        for thing in [(0, 0, 0), (-5, 10 ** 40, 3), (1, 2, 2)]:
            self.assertIs(is_piece(thing), True)
            self.assertIs(is_piece(thing=listed(thing)), False)
        others = [(), (0, 0), (0, 0, 0, 0), (0, 0, 4), (0, 0, -1), (0, 0, True), (False, 0, 0), ((0, 0), 0, 0)]
        for thing in [*ODD, *others]:
            self.assertIs(is_piece(thing), False)

    def test_on_floor(self):
        for floor in [(1, 1), (1, 2), (2, 1), (3, 2)]:
            for piece in all_pieces(floor):
                self.assertIs(on_floor(floor, piece), all(inside(floor, cell) for cell in cells(piece)))

    def test_each_piece_of_floors(self):
        for floor in FLOORS:
            m, n = floor
            many = 0
            for piece in all_pieces(floor, 2 if m * n <= 9 else 0):
                told = own_told(piece)
                lies = told is not None and all(inside(floor, cell) for cell in cells(piece))
                self.assertIs(can_lie(floor, piece), lies)
                if lies:
                    many += 1
                    block, sign, out, other = told
                    self.assertEqual(own_block(floor, piece), block)
                    self.assertEqual(sign_of(floor, piece), sign)
                    self.assertEqual(left_out(floor, piece), out)
                    self.assertEqual(goes_to(floor, piece), other)
                    self.assertEqual(tie_told(floor, piece), own_tie(floor, piece))
                    self.assertEqual(piece_to(floor, block, other), piece)
            self.assertEqual(many, 16 * m * n - 4 * m - 4 * n)

    def test_pieces_that_can_not_lie(self):
        for floor in [(1, 1), (1, 2), (2, 2)]:
            for piece in all_pieces(floor):
                if not can_lie(floor, piece):
                    for function in OF_PIECES:
                        check_raises(self, "CanNot()", function, floor, piece)
                        check_raises(self, "CanNot()", function, piece=list(piece), floor=list(floor))

    def test_four_of(self):
        for floor in FLOORS:
            m, n = floor
            seen = set()
            for block in [(i, j) for i in range(2 * m) for j in range(2 * n)]:
                four = four_of(floor, block)
                self.assertEqual(four, tuple(sorted(four)))
                i, j = block
                beside = {(i + 1, j), (i, j + 1), (i - 1, j), (i, j - 1)}
                beside = sorted(b for b in beside if 0 <= b[0] < 2 * m and 0 <= b[1] < 2 * n)
                self.assertEqual(sorted(goes_to(floor, own) for own in four), beside)
                self.assertEqual({own_block(floor, own) for own in four}, {block})
                for sign in (1, -1):
                    like = {(own[:2], left_out(floor, own)) for own in four if sign_of(floor, own) == sign}
                    other = {(own[:2], left_out(floor, own)) for own in four if sign_of(floor, own) == 0 - sign}
                    self.assertLessEqual(len(like), 1)
                    if like and other:
                        self.assertEqual(like.pop(), other.pop()[::-1])
                self.assertFalse(seen & set(four))
                seen |= set(four)
            self.assertEqual(len(seen), 16 * m * n - 4 * m - 4 * n)

    def test_piece_to(self):
        for floor in [(1, 1), (2, 1), (2, 2), (3, 2)]:
            blocks = [(i, j) for i in range(2 * floor[0]) for j in range(2 * floor[1])]
            for block in blocks:
                for other in blocks:
                    if abs(block[0] - other[0]) + abs(block[1] - other[1]) == 1:
                        own = piece_to(floor, block, other)
                        self.assertEqual((own_block(floor, own), goes_to(floor, own)), (block, other))
                    else:
                        check_raises(self, "CanNot()", piece_to, floor, block, other)


class Refusals(unittest.TestCase):
    def test_floor_ahead_of_all(self):
        for odd in [*ODD, (0, 1), (), [], (1, 1, 1)]:
            for function in (on_floor, can_lie, *OF_PIECES):
                for piece in ((0, 0, 0), (99, 99, 0), None):
                    check_raises(self, "Unfit()", function, odd, piece)
            for block in ((0, 0), (99, 0), None):
                check_raises(self, "Unfit()", four_of, odd, block)
                check_raises(self, "Unfit()", piece_to, odd, block, (99, 99))

    def test_no_piece(self):
        odd = [*ODD, (), [], (0, 0), (0, 0, 0, 0), (0, 0, 4), (0, 0, -1), ((0, 0, 0),), (0, 0, True), (True, 0, 0)]
        for function in (on_floor, can_lie, *OF_PIECES):
            check_unfit(self, function, [(1, 1), None], 1, odd)
        check_unfit(self, cells_of, [None], 0, odd)

    def test_blocks(self):
        odd = [*ODD, (), [], (0,), (0, 0, 0), 0, ((0, 0), (0, 0))]
        check_unfit(self, four_of, [(2, 1), None], 1, odd)
        for block in ((-1, 0), (4, 0), (0, 2), (0, -1)):
            check_raises(self, f"NoBlock(block={block})", four_of, (2, 1), block)
            check_raises(self, f"NoBlock(block={block})", four_of, block=list(block), floor=[2, 1])
        check_unfit(self, piece_to, [(2, 1), None, (99, 99)], 1, odd)
        check_unfit(self, piece_to, [(2, 1), (99, 99), None], 2, odd)
        check_raises(self, "NoBlock(block=(4, 0))", piece_to, (2, 1), (4, 0), (0, 2))
        check_raises(self, "NoBlock(block=(4, 1))", piece_to, (2, 1), (3, 1), [4, 1])
        check_raises(self, "NoBlock(block=(0, -1))", piece_to, (2, 1), (0, 0), (0, -1))


if __name__ == "__main__":
    unittest.main()
