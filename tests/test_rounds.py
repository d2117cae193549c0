"""Rounds: point [10]."""

import random
import unittest

from teefloors import errors, rounds as module
from teefloors.rounds import (
    dots_within, how_many_rounds, next_left, next_right, rings_in, round_area, round_at, round_walk, rounds,
    rounds_by_lands, rounds_tie_by_tie, tie_turned,
)
from tests.helpers import ODD, check_raises, check_transcript, check_unfit, listed
from tests.own import (
    drawn_lot, each_lot, own_blocks, own_dots, own_lands, own_next, own_parts, own_rings, own_rounds, own_ties,
)
from tests.test_ties import UNFIT_LOTS

# The names of the nearest example ahead: those of point [9].
NAMES = r"""
>>> square = (2, 2)
>>> south, north, west, east = ((0, 0), (1, 0)), ((0, 1), (1, 1)), ((0, 0), (0, 1)), ((1, 0), (1, 1))
>>> ring = (west, south, north, east)
"""
EXAMPLES = NAMES + r"""
>>> rounds((1, 1), ()), rounds(square, (south,))[0], round_walk(square, (south,), (1, 0))
((((0, 0), (0, 1), (1, 0), (1, 1)),), ((0, 0), (0, 1), (1, 0), (1, 1), (2, 0), (2, 1), (3, 0), (3, 1)), ((1, 0), (2, 0), (3, 0), (3, 1), (2, 1), (1, 1), (0, 1), (0, 0)))
>>> [how_many_rounds(square, own) for own in ((), (south,), (south, north), ring[:3], ring)], rings_in(square, ring), rounds_by_lands(square, ring)
([4, 3, 2, 1, 2], 1, 2)
>>> rounds_tie_by_tie(square, ring), tie_turned(square, ring, east), tie_turned(square, (south,), north), tie_turned(square, ring[:3], east)
((4, 3, 2, 1, 2), -1, -1, 1)
>>> rounds(square, ring)[1], round_at(square, ring, (2, 1)), round_at(square, ring, (3, 0)), [round_area(square, ring, own) for own in (0, 1)]
(((1, 1), (1, 2), (2, 1), (2, 2)), 1, 0, [18, -2])
>>> [dots_within(square, ring, own) for own in (0, 1)], next_left(square, ring, (1, 1)), next_right(square, ring, (1, 1))
([((0, 0), (0, 1), (1, 0), (1, 1)), ()], (1, 2), (2, 1))
>>> tie_turned(square, (), ((0, 0), (1, 1)))
raises NoTie(tie=((0, 0), (1, 1)))
>>> round_area(square, (), 4)
raises Unfit()
"""

SQUARE = (2, 2)
SOUTH, NORTH, WEST, EAST = ((0, 0), (1, 0)), ((0, 1), (1, 1)), ((0, 0), (0, 1)), ((1, 0), (1, 1))
RING = (WEST, SOUTH, NORTH, EAST)


def own_walk(after, block):
    walk = [block]
    while after[walk[-1]] != block:
        walk.append(after[walk[-1]])
    return walk


def own_area(walk):
    """The doubled area to the left, strip by strip: under each way to the west, less under each to the east."""
    area = 0
    for (i, j), (k, _) in zip(walk, walk[1:] + walk[:1]):
        area += 2 * j * (i - k)
    return area


def goes_round(walk, dot):
    """How often a way goes leftward round a DOT: ways over it to the west less those over it to the east."""
    x, y = 2 * dot[0] + 0.5, 2 * dot[1] + 0.5
    steps = zip(walk, walk[1:] + walk[:1])
    return sum(i - k for (i, j), (k, h) in steps if j == h and j > y and min(i, k) < x < max(i, k))


class Examples(unittest.TestCase):
    def test_examples(self):
        check_transcript(self, EXAMPLES, [errors, module])


class AllLots(unittest.TestCase):
    """On all LOTS of small FLOORS, and drawn ones of greater ones."""

    def test_rounds(self):
        for floor, lot in each_lot(3):
            told = rounds(floor, lot)
            self.assertEqual(told, own_rounds(floor, lot))
            self.assertEqual(sorted(block for own in told for block in own), own_blocks(floor))
            self.assertEqual({len(own) % 4 for own in told}, {0})
            self.assertEqual(how_many_rounds(floor, lot), len(told))

    def test_how_many(self):
        for floor, lot in each_lot(3):
            many, parts, rings = how_many_rounds(floor, lot), len(own_parts(floor, lot)), rings_in(floor, lot)
            self.assertEqual(rings, own_rings(floor, lot))
            self.assertEqual(many, parts + rings)
            self.assertEqual(rounds_by_lands(floor, lot), many)
            self.assertEqual(rounds_by_lands(floor, lot), parts + len(own_lands(floor, lot)) - 1)
            self.assertEqual((many + len(own_dots(floor)) + len(lot)) % 2, 0)

    def test_tie_by_tie(self):
        for floor, lot in each_lot(3):
            told = rounds_tie_by_tie(floor, lot)
            self.assertIsInstance(told, tuple)
            self.assertEqual(len(told), len(lot) + 1)
            self.assertEqual(told[-1], how_many_rounds(floor, lot))
            self.assertEqual(told[0], floor[0] * floor[1])
            for many in range(0, len(lot), 1 + len(lot) // 8):
                self.assertEqual(told[many], len(own_rounds(floor, lot[:many])))

    def test_a_tie_turned(self):
        for floor, lot in each_lot(1):
            many, parts = how_many_rounds(floor, lot), own_parts(floor, lot)
            told = own_ties(floor)
            for tie in told[::1 + len(told) // 12]:
                other = tuple(sorted(set(lot) ^ {tie}))
                more = tie_turned(floor, lot, tie)
                self.assertEqual(more, how_many_rounds(floor, other) - many)
                self.assertEqual(tie_turned(floor, other, tie), -more)
                if tie not in lot:
                    in_two_parts = not any(set(tie) <= set(part) for part in parts)
                    self.assertEqual(more, -1 if in_two_parts else 1)

    def test_walks(self):
        for floor, lot in each_lot(1):
            left, right = own_next(floor, lot, 1), own_next(floor, lot, -1)
            told = own_blocks(floor)
            for block in told[::1 + len(told) // 20]:
                self.assertEqual(next_left(floor, lot, block), left[block])
                self.assertEqual(next_right(floor, lot, block), right[block])
                self.assertEqual(next_right(floor, lot, left[block]), block)
                walk = round_walk(floor, lot, block)
                self.assertEqual(walk, tuple(own_walk(left, block)))
                place = round_at(floor, lot, block)
                self.assertEqual(tuple(sorted(walk)), rounds(floor, lot)[place])

    def test_areas_and_dots(self):
        for floor, lot in each_lot(3):
            left = own_next(floor, lot, 1)
            areas = []
            for number, own in enumerate(rounds(floor, lot)):
                walk = own_walk(left, own[0])
                areas.append(round_area(floor, lot, number))
                self.assertEqual(areas[-1], own_area(walk))
                turns = {dot: goes_round(walk, dot) for dot in own_dots(floor)}
                within = tuple(dot for dot, turn in turns.items() if turn)
                self.assertEqual({turns[dot] for dot in within} - {1 if areas[-1] > 0 else -1}, set())
                self.assertEqual(dots_within(floor, lot, number), within)
            self.assertEqual(len([own for own in areas if own > 0]), len(own_parts(floor, lot)))
            self.assertEqual(len([own for own in areas if own < 0]), own_rings(floor, lot))

    def test_one_row(self):
        for floor in ((1, 8), (8, 1), (1, 20)):
            every = tuple(own_ties(floor))
            self.assertEqual(how_many_rounds(floor, every), 1)
            self.assertEqual(dots_within(floor, every, 0), tuple(own_dots(floor)))
            self.assertEqual(rounds_tie_by_tie(floor, every), tuple(range(max(floor), 0, -1)))
            self.assertEqual(rings_in(floor, every), 0)

    def test_a_ring_about_a_dot(self):
        about = tuple(tie for tie in own_ties((3, 3)) if (1, 1) not in tie)
        told = [dots_within((3, 3), about, number) for number in range(3)]
        self.assertEqual(sorted(told), [(tuple(own_dots((3, 3)))), ((1, 1),), ((1, 1),)])
        self.assertEqual(sorted(round_area((3, 3), about, number) for number in range(3)), [-18, 2, 50])

    def test_by_name_and_with_lists(self):
        self.assertEqual(rounds(lot=listed(RING), floor=[2, 2]), rounds(SQUARE, RING))
        self.assertEqual(tie_turned(tie=listed(EAST), lot=listed(RING), floor=[2, 2]), -1)
        self.assertEqual(round_walk(block=[1, 0], lot=[listed(SOUTH)], floor=[2, 2])[:2], ((1, 0), (2, 0)))
        self.assertEqual(round_area(number=1, lot=listed(RING), floor=[2, 2]), -2)


class Refusals(unittest.TestCase):
    def test_floors_and_lots(self):
        odd = [*ODD, (0, 1), (1, 0), (), [], (1, 1, 1), 1]
        behind = {
            rounds: [()], how_many_rounds: [()], rings_in: [()], rounds_by_lands: [()], rounds_tie_by_tie: [()],
            round_at: [(), (99, 99)], next_left: [(), (99, 99)], next_right: [(), (99, 99)],
            round_walk: [(), (99, 99)], tie_turned: [(), ((0, 0), (5, 5))], round_area: [(), 99],
            dots_within: [(), 99],
        }
        for function, more in behind.items():
            check_unfit(self, function, [None, *more], 0, odd)
            check_unfit(self, function, [SQUARE, *more], 1, UNFIT_LOTS)

    def test_blocks(self):
        for function in (round_at, next_left, next_right, round_walk):
            check_unfit(self, function, [SQUARE, (), None], 2, [*ODD, (), [], (0,), (0, 0, 0), 0, ((0, 0),)])
            for block in ((-1, 0), (0, -1), (4, 0), (0, 4)):
                check_raises(self, f"NoBlock(block={block})", function, SQUARE, (SOUTH,), block)
                check_raises(self, f"NoBlock(block={block})", function, [2, 2], [listed(SOUTH)], list(block))

    def test_ties(self):
        odd = [value for value in ODD if value not in (((0, 0), (0, 1)),)]
        check_unfit(self, tie_turned, [SQUARE, RING, None], 2, [*odd, (), SOUTH + EAST, (SOUTH,), ((0, 0),)])
        for tie in (EAST[::-1], ((0, 0), (1, 1)), ((0, 0), (0, 0)), ((1, 0), (2, 0)), ((-1, 0), (0, 0))):
            for lot in ((), RING):
                check_raises(self, f"NoTie(tie={tie})", tie_turned, SQUARE, lot, tie)
                check_raises(self, f"NoTie(tie={tie})", tie_turned, SQUARE, lot, listed(tie))

    def test_numbers(self):
        for function in (round_area, dots_within):
            check_unfit(self, function, [SQUARE, RING, None], 2, [*ODD, 2, 3, -1, -2, (), [0], "0", 0.0])
            for seed in range(20):
                lot = drawn_lot(random.Random(seed), (2, 3))
                many = how_many_rounds((2, 3), lot)
                for number in (many, many + 1, -1, -many, 10 ** 6):
                    check_raises(self, "Unfit()", function, (2, 3), lot, number)


if __name__ == "__main__":
    unittest.main()
