"""Counts: point [19]."""

import random
import unittest

from teefloors import counts as module
from teefloors import errors
from teefloors.counts import (
    block_shares, flat_counts, height_counts, many_above, many_layings, many_rises, share_of,
)
from teefloors.layings import some_laying
from teefloors.mirrored import floor_moved, pieces_moved
from tests.helpers import FEW_LAYINGS, FLOORS, ODD, check_raises, check_transcript, check_unfit, listed
from tests.own import (
    RIM, SMALL, as_rise, drawn_laying, drawn_rise, own_blocks, own_faces, own_flat, own_greatest,
    own_how_many_rises, own_rises, own_steps, own_ties,
)
from tests.own_told import (
    each_drawn_told, heights_and_flats, heights_of_laying, own_above, own_having, told_both_ways,
)
from tests.test_finished import OFF
from tests.test_told import SQUARE, THREE, UNFIT_TOLD, own_pieces

EXAMPLES = r"""
>>> [many_layings((1, many), ()) for many in (1, 2, 3)], many_layings((2, 2), ()), many_rises((2, 2), ()), many_layings([2, 3], [])
([2, 6, 18], 84, 18, 1182)
>>> many_layings((4, 4), ()), many_rises((4, 4), ()), many_layings((7, 7), ())
(1668091536, 230274, 2219885416449546846322852561536)
>>> two, low = (2, 2), ((0, 1, 0),)
>>> many_layings(two, low), many_rises(two, low), share_of(two, (), (0, 1, 0)), share_of(two, low, (2, 3, 0))
(42, 9, (42, 84), (1, 42))
>>> block_shares(two, (), (0, 0)), block_shares(two, low, (1, 1))
((((0, 1, 0), 42), ((1, 0, 1), 42)), (((2, 3, 0), 1), ((2, 3, 3), 0), ((3, 2, 1), 14), ((3, 2, 2), 27)))
>>> many_above(two, (((1, 1), (1, 1)), ((0,),))), many_above(two, (((-1, -1), (-1, -1)), ((-2,),))), many_above(two, (((1, 1), (1, 1)), ((2,),)))
(17, 84, 1)
>>> height_counts(two, ("inner", 0, 0)), height_counts((3, 3), ("dot", 1, 1)), height_counts(two, ("rim",))
(((-2, 1), (0, 82), (2, 1)), ((-3, 1), (-1, 39347), (1, 39347), (3, 1)), ((0, 84),))
>>> flat_counts((1, 3)), flat_counts(two), flat_counts((2, 3))
((2, 4, 2), (4, 0, 12, 0, 2), (2, 14, 12, 22, 18, 12, 0, 2))
>>> many_layings((8, 8), ())
raises TooMany()
>>> block_shares(two, (), (4, 0))
raises NoBlock(block=(4, 0))
"""

# FLOORS with not too many RISES to be listed, those of all LAYINGS among them.
LISTED = [*SMALL, (1, 4), (4, 1), (2, 4), (3, 3)]
WIDE = [(8, 8), (8, 9), (10, 8), (20, 30)]
NARROW = [floor for floor in FLOORS if min(floor) < 8]
RISE = (((1, 1), (1, 1)), ((0,),))
UNFIT_PIECES = [
    *[value for value in ODD if value != (0, 0, 0)], (), [], 0, (0, 0), RIM, *OFF, (0, 1, 1), (2, 3, 4), (8, 1, 0),
    ((0, 1, 0),), (0.0, 1, 0), (0, True, 0),
]


def own_block(piece):
    return (piece[0] // 2, piece[1] // 2)


def own_far(floor, face):
    """How many STEPS lead from this FACE to each other one, not by way of the RIM."""
    far, edge = {face: 0}, [face]
    while edge:
        beyond = sorted({other for own in edge if own != RIM for other in own_steps(floor)[own] if other not in far})
        far.update({own: far[edge[0]] + 1 for own in beyond})
        edge = beyond
    return far


def own_four(floor, block):
    return [piece for piece in own_pieces(floor) if own_block(piece) == block]


class Examples(unittest.TestCase):
    def test_examples(self):
        check_transcript(self, EXAMPLES, [errors, module])


class BesideAllLayings(unittest.TestCase):
    def test_layings_and_rises(self):
        for floor, told in each_drawn_told(60):
            having = own_having(floor, told)
            self.assertEqual(many_layings(floor, told), len(having))
            rises = {tuple(heights_of_laying(floor, laying).values()) for laying in having}
            self.assertEqual(many_rises(floor, told), len(rises))
            self.assertEqual(many_layings(told=listed(told), floor=list(floor)), len(having))
            self.assertEqual(many_rises(told=listed(told), floor=list(floor)), len(rises))

    def test_shares(self):
        for floor, told in each_drawn_told(18):
            having = [set(laying) for laying in own_having(floor, told)]
            for piece in random.Random(str(told)).sample(list(own_pieces(floor)), 6):
                many = len([own for own in having if piece in own])
                if having:
                    self.assertEqual(share_of(floor, told, piece), (many, len(having)))
                else:
                    check_raises(self, "CanNot()", share_of, floor, told, piece)
            for block in random.Random(str(told)).sample(own_blocks(floor), 3):
                shares = tuple((piece, len([own for own in having if piece in own])) for piece in own_four(floor, block))
                self.assertEqual(block_shares(floor, told, block), shares)
                self.assertEqual(sum(many for _, many in shares), many_layings(floor, told))
        self.assertEqual(share_of(piece=[2, 3, 0], told=[[0, 1, 0]], floor=[2, 2]), (1, 42))
        self.assertEqual(block_shares(block=[0, 0], told=[], floor=[1, 1]), (((0, 1, 0), 1), ((1, 0, 1), 1)))

    def test_none_has_told(self):
        for floor in ((1, 2), (2, 2), (5, 7)):
            told = told_both_ways(random.Random(str(floor)), floor)
            self.assertEqual((many_layings(floor, told), many_rises(floor, told)), (0, 0))
            for piece in list(own_pieces(floor))[::9]:
                check_raises(self, "CanNot()", share_of, floor, told, piece)
            for block in own_blocks(floor)[::7]:
                self.assertEqual({many for _, many in block_shares(floor, told, block)}, {0})
        self.assertEqual((many_layings(SQUARE, THREE), many_layings(SQUARE, THREE[:2])), (0, 1))


class BesideAllRises(unittest.TestCase):
    def test_layings_and_rises(self):
        for floor in LISTED:
            self.assertEqual(many_rises(floor, ()), len(own_rises(floor)))
            self.assertEqual(many_layings(floor, ()), sum(2 ** flat for _, flat in heights_and_flats(floor)))
        for floor, many in FEW_LAYINGS.items():
            self.assertEqual(many_layings(floor, ()), many)

    def test_many_above(self):
        for floor in LISTED:
            rises = own_rises(floor)
            for rise in rises[::1 + len(rises) // 40]:
                self.assertEqual(many_above(floor, rise), own_above(floor, rise))
            self.assertEqual(many_above(rise=listed(rises[0]), floor=list(floor)), own_above(floor, rises[0]))

    def test_heights(self):
        for floor in LISTED:
            for face in own_faces(floor):
                times = {}
                for heights, flat in heights_and_flats(floor):
                    times[heights[face]] = times.get(heights[face], 0) + 2 ** flat
                self.assertEqual(height_counts(floor, face), tuple(sorted(times.items())))
        self.assertEqual(height_counts(face=["rim"], floor=[1, 1]), ((0, 2),))

    def test_flats(self):
        for floor in LISTED:
            flats = [flat for _, flat in heights_and_flats(floor)]
            told = tuple(flats.count(many) for many in range(len(own_ties(floor)) + 1))
            self.assertEqual(flat_counts(floor), told)
            self.assertEqual(flat_counts(floor=list(floor)), told)


class GreatFloors(unittest.TestCase):
    def test_one_row(self):
        for many in [*range(1, 12), 40, 100]:
            for floor in ((1, many), (many, 1)):
                self.assertEqual(many_layings(floor, ()), 2 * 3 ** (many - 1))
                self.assertEqual(many_rises(floor, ()), 2 ** many)

    def test_turned_about(self):
        for m, n in NARROW:
            if m < n:
                self.assertEqual(many_layings((m, n), ()), many_layings((n, m), ()))
        for floor in ((2, 5), (4, 3), (6, 7), (7, 8)):
            draw = random.Random(str(floor))
            laying = drawn_laying(draw, floor)
            told = tuple(piece for piece in laying if draw.random() < 0.3)
            for number in range(8):
                moved = floor_moved(floor, number)
                led = pieces_moved(floor, told, number)
                self.assertEqual(many_layings(moved, led), many_layings(floor, told))
                self.assertEqual(many_rises(moved, led), many_rises(floor, told))
            self.assertEqual(flat_counts(floor), flat_counts(floor[::-1]))

    def test_rises_counted_otherwise(self):
        for floor in ((3, 8), (4, 6), (5, 5), (2, 8), (6, 4)):
            self.assertEqual(many_rises(floor, ()), own_how_many_rises(floor))

    def test_sums(self):
        for floor in NARROW:
            whole = many_layings(floor, ())
            draw = random.Random(str(floor))
            told = tuple(piece for piece in drawn_laying(draw, floor) if draw.random() < 0.05)
            self.assertEqual(sum(many for _, many in block_shares(floor, told, draw.choice(own_blocks(floor)))),
                             many_layings(floor, told))
            for face in draw.sample(own_faces(floor), 1):
                table = height_counts(floor, face)
                self.assertEqual(sum(many for _, many in table), whole)
                self.assertEqual([(-now, many) for now, many in reversed(table)], list(table))
            flats = flat_counts(floor)
            self.assertEqual(len(flats), len(own_ties(floor)) + 1)
            self.assertEqual(sum(flats), many_rises(floor, ()))
            self.assertEqual(sum(many << at for at, many in enumerate(flats)), whole)

    def test_above_the_least_and_the_greatest(self):
        for floor in NARROW:
            high = own_greatest(floor)
            most = as_rise(floor, high)
            self.assertEqual(many_above(floor, most), 2 ** len(own_flat(floor, most)))
            self.assertEqual(many_above(floor, as_rise(floor, {face: -own for face, own in high.items()})),
                             many_layings(floor, ()))
            # One DOT at the rim let down: besides the greatest RISE there is just this one.
            lower = {**high, ("dot", 0, 0): -1}
            if all(own == 0 for face, own in high.items() if face[0] == "inner" and face[1:] == (0, 0)):
                less = as_rise(floor, lower)
                self.assertEqual(many_above(floor, less),
                                 2 ** len(own_flat(floor, most)) + 2 ** len(own_flat(floor, less)))

    def test_above_a_drawn_one(self):
        """Of all LAYINGS with one FACE at one height those that are above a RISE which asks for just that."""
        for floor in ((4, 4), (3, 6), (6, 3), (5, 4)):
            draw, high = random.Random(str(floor)), own_greatest(floor)
            for face in draw.sample([own for own in own_faces(floor) if own != RIM], 5):
                for now, _ in height_counts(floor, face):
                    # The least RISE with this FACE so high: each STEP away from it 1 less, where that is not too low.
                    heights = {own: max(-high[own], now - far) for own, far in own_far(floor, face).items()}
                    many = sum(number for own, number in height_counts(floor, face) if own >= now)
                    self.assertEqual(many_above(floor, as_rise(floor, heights)), many)

    def test_all_told(self):
        for floor in NARROW:
            laying = some_laying(floor)
            self.assertEqual((many_layings(floor, laying), many_rises(floor, laying)), (1, 1))
            self.assertEqual(share_of(floor, laying, laying[-1]), (1, 1))
            block = own_block(laying[0])
            self.assertEqual([piece for piece, many in block_shares(floor, laying, block) if many], [laying[0]])
        for floor in ((8, 7), (7, 8)):
            self.assertEqual(many_layings(floor, tuple(own_pieces(floor))), 0)
            self.assertEqual(len(height_counts(floor, ("dot", 3, 3))), 8)


class Refusals(unittest.TestCase):
    def test_too_many(self):
        for floor in WIDE:
            laying = some_laying((8, 8))
            calls = [(many_layings, ()), (many_rises, ()), (share_of, (), (0, 1, 0)), (block_shares, (), (0, 0)),
                     (height_counts, RIM), (height_counts, ("inner", 6, 6)), (many_layings, laying[:3]),
                     (share_of, ((0, 1, 0), (1, 0, 1)), (0, 1, 0)), (flat_counts,)]
            for function, *more in calls:
                check_raises(self, "TooMany()", function, floor, *more)
                check_raises(self, "TooMany()", function, list(floor), *listed(more))
        rise = drawn_rise(random.Random(1), (8, 8))
        check_raises(self, "TooMany()", many_above, (8, 8), rise)
        for floor in ((7, 9), (9, 7), (1, 30)):
            self.assertGreater(many_layings(floor, ()), 10 ** 12)

    def test_floors(self):
        odd = [*ODD, (0, 1), (1, 0), (), [], (1, 1, 1), 1]
        for function, more in {
            many_layings: [()], many_rises: [()], share_of: [(), (0, 1, 0)], block_shares: [(), (0, 0)],
            many_above: [RISE], height_counts: [RIM], flat_counts: [],
        }.items():
            check_unfit(self, function, [None, *more], 0, odd)

    def test_told(self):
        # Unfit() is ahead of NoBlock and of TooMany().
        for floor in ((2, 2), (8, 8)):
            odd = UNFIT_TOLD if floor == (2, 2) else [value for value in ODD if value not in ((), [])]
            for function, more in {
                many_layings: [], many_rises: [], share_of: [(0, 1, 0)], block_shares: [(50, 50)],
            }.items():
                check_unfit(self, function, [floor, None, *more], 1, odd)

    def test_pieces(self):
        for floor, told in (((2, 2), ()), ((2, 2), THREE), ((8, 8), ())):
            odd = UNFIT_PIECES if floor == (2, 2) else [value for value in UNFIT_PIECES if value not in ((8, 1, 0),)]
            check_unfit(self, share_of, [floor, told, None], 2, odd)

    def test_blocks(self):
        odd = [value for value in ODD if not (isinstance(value, tuple) and len(value) == 2 and value == (0, 0))]
        for floor in ((2, 2), (8, 8)):
            check_unfit(self, block_shares, [floor, (), None], 2, [*odd, (), [], 0, (0, 0, 0), (0,), (0.0, 0)])
            for block in ((2 * floor[0], 0), (0, 2 * floor[1]), (-1, 0), (0, -1), (10 ** 6, 0)):
                check_raises(self, f"NoBlock(block={block})", block_shares, floor, (), block)
                check_raises(self, f"NoBlock(block={block})", block_shares, list(floor), [], list(block))
                check_raises(self, f"NoBlock(block={block})", block_shares, floor, ((0, 1, 0), (1, 0, 1)), block)

    def test_rises(self):
        odd = [*ODD, (), [], 0, RISE[0], (RISE[0],), (RISE[0], ()), (RISE[0], ((1,),)), (((1, 1), (1, -3)), ((0,),)),
               (((1, 1), (1, True)), ((0,),)), (((1, -1), (1, 1)), ((2,),)), (((1, 1, 1),) * 2, ((0, 0),)), (RISE,)]
        check_unfit(self, many_above, [(2, 2), None], 1, odd)
        check_unfit(self, many_above, [(8, 8), None], 1, [*odd, RISE])

    def test_faces(self):
        odd = [value for value in ODD if value != ["rim"]]
        for floor in ((2, 2), (8, 8)):
            check_unfit(self, height_counts, [floor, None], 1, [*odd, (), [], 0, "rim", ("Rim",), ("inner", 0), (0, 0)])
            for face in (("dot", floor[0], 0), ("dot", 0, -1), ("inner", 0, floor[1] - 1), ("inner", 10 ** 6, 0)):
                check_raises(self, f"NoFace(face={face})", height_counts, floor, face)
                check_raises(self, f"NoFace(face={face})", height_counts, list(floor), list(face))


if __name__ == "__main__":
    unittest.main()
