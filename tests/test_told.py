"""Told pieces: point [17]."""

import functools
import itertools
import random
import unittest

from teefloors import errors, told as module
from teefloors.layings import some_laying
from teefloors.told import (
    both_ways, bound, falling_ring, is_falling_ring, is_told, ring_bound, signs_told, ties_told,
)
from tests.helpers import FLOORS, ODD, caught, check_raises, check_transcript, check_unfit, listed
from tests.own import (
    GREAT, RIM, SMALL, drawn_laying, own_blocks, own_dot, own_faces, own_goal, own_goals, own_layings, own_middle,
    own_outer, own_piece, own_steps, own_ties,
)

EXAMPLES = r"""
>>> small, low, tied = (1, 2), (0, 1, 0), (1, 3, 2)
>>> signs_told(small, (low, tied)), ties_told(small, (low, tied)), both_ways(small, (tied, (2, 4, 1)))
((((0, 0), -1), ((0, 1), -1), ((0, 2), -1)), ((((0, 0), (0, 1)), 'tied'),), (((0, 0), (0, 1)),))
>>> [bound(small, (low,), *own) for own in ((("dot", 0, 0), ("rim",)), (("rim",), ("dot", 0, 0)), (("dot", 0, 1), ("rim",)))]
[1, -1, 1]
>>> clash = (low, (1, 0, 1))
>>> is_falling_ring(small, clash, falling_ring(small, clash)), is_falling_ring(small, clash, (("rim",), ("dot", 0, 0), ("rim",)))
(True, True)
>>> square, three = (2, 2), ((1, 0, 1), (3, 2, 1), (5, 7, 3))
>>> ring = (("dot", 0, 0), ("rim",), ("dot", 1, 1), ("inner", 0, 0), ("dot", 0, 0))
>>> ring_bound(square, three, ring), is_falling_ring(square, three, ring), is_falling_ring(square, three, ring[::-1]), ring_bound(square, three[:2], ring)
(-2, True, False, 0)
>>> is_told(square, three), is_told(square, (low, (1, 0, 1))), is_told(square, three[::-1]), is_told(square, ((1, 1, 0),))
(True, True, False, False)
>>> falling_ring(square, three[:2])
raises CanNot()
>>> bound(square, (), ("dot", 0, 0), ("dot", 0, 1))
raises CanNot()
"""

SQUARE = (2, 2)
THREE = ((1, 0, 1), (3, 2, 1), (5, 7, 3))
RING = (("dot", 0, 0), RIM, ("dot", 1, 1), ("inner", 0, 0), ("dot", 0, 0))
UNFIT_TOLD = [
    *[value for value in ODD if value not in ((), [])], 0, THREE[0], THREE[::-1], THREE + THREE[2:], THREE[:1] * 2,
    (THREE,), ((1, 1, 0),), ((0, 0, 1),), ((1, 0, 3),), ((8, 0, 1),), ((-1, 0, 1),), ((1, 0, 1), (1, 0, 4)), ("101",),
    ((1, 0),), ((1, 0, 1, 0),), ((1, 0, True),), ((1, 0, 1), None), (None, (1, 0, 1)), (*THREE, (7, 7, 0)), (1, 0, 1),
    ((7, 6, 0),), ((0, 1, 2),), ((10 ** 40, 0, 1),), ((1.0, 0, 1),),
]
UNFIT_FACES = [
    *[value for value in ODD if value != ["rim"]], (), [], 0, "rim", ("Rim",), ("dot", 2, 0), ("dot", 0, 2),
    ("dot", -1, 0), ("inner", 1, 0), ("inner", 0, 1), ("inner", 0, -1), ("inner", 0), (0, 0), ("dot", (0, 0)),
]
# None of these is a RING of (2, 2).
UNFIT_RINGS = [
    *ODD, 0, (), [], RIM, (RIM,), (RIM, RIM), (RIM, RIM, RIM), RING[:1], RING[:2], RING[:4], RING[1:], (*RING, RIM),
    (*RING[:2], *RING[3:]), (*RING[:4], ("dot", 0, 1)), (RIM, ("inner", 0, 0), RIM), (RING[0], ("dot", 0, 1), RING[0]),
    (RIM, ("dot", 2, 0), RIM), (RIM, ("dot", 0, -1), RIM), (RIM, ("dot", 0, True), RIM), (RIM, None, RIM),
    (RIM, ("dot", 0), RIM), (None, ("dot", 0, 0), None), (("dot", 0, 0), RIM, ("dot", 1, 0)), (RING,), (*RING, *RING),
    (RIM, ODD[-1], RIM), (RIM, "rim", RIM), (RIM, ("dot", 0, 0), ("inner", 0, 0), RIM), ("rim", "rim", "rim"),
    (("dot", 0, 0), ("inner", 1, 1), ("dot", 0, 0)), (RIM, ("dot", 0, 0), ("dot", 0, 0), RIM),
]


@functools.lru_cache(None)
def own_pieces(floor):
    """All PIECES that can lie, with what each tells: its BLOCKS, its SIGN, its TIE; ascending."""
    blocks, found = own_blocks(floor), {}
    for block in blocks:
        for sign in (1, -1):
            for goal, other in (own_goals(block, sign), own_goals(block, sign)[::-1]):
                if goal in blocks:
                    tie = None
                    if own_dot(goal) != own_dot(block):
                        tie = tuple(sorted((own_dot(block)[1:], own_dot(goal)[1:]))), "tied"
                    elif other in blocks:
                        tie = tuple(sorted((own_dot(block)[1:], own_dot(other)[1:]))), "cut"
                    found[own_piece(block, goal)] = (block, goal), sign, tie
    return {piece: found[piece] for piece in sorted(found)}


def own_signs_told(floor, told):
    return {(block, sign) for piece in told for blocks, sign, _ in [own_pieces(floor)[piece]] for block in blocks}


def own_ties_told(floor, told):
    return {tie for piece in told for _, _, tie in [own_pieces(floor)[piece]] if tie}


def own_both_ways(floor, told):
    pairs = own_ties_told(floor, told)
    return sorted(tie for tie in own_ties(floor) if {(tie, "tied"), (tie, "cut")} <= pairs)


def own_bounds(floor, told):
    """For each STEP the least of what is told of it, and of 1."""
    bounds = {(face, other): 1 for face in own_faces(floor) for other in own_steps(floor)[face]}
    for block, sign in own_signs_told(floor, told):
        dot, outer = own_dot(block), own_outer(floor, block)
        for step, most in (((outer, dot), sign), ((dot, outer), -sign)):
            bounds[step] = min(bounds[step], most)
    return bounds


def some_ring_falls(floor, told):
    """Whether, by the least sums of bounds between all two FACES, one comes back lower."""
    bounds, all_faces = own_bounds(floor, told), own_faces(floor)
    least = {(one, two): bounds.get((one, two), 10 ** 6) for one in all_faces for two in all_faces}
    for mid, one, two in itertools.product(all_faces, repeat=3):
        least[one, two] = min(least[one, two], least[one, mid] + least[mid, two])
    return any(least[face, face] < 0 for face in all_faces)


def own_sum(bounds, ring):
    return sum(bounds[step] for step in zip(ring, ring[1:]))


def drawn_told(draw, floor):
    """Some PIECES: of one LAYING, of two, or of all that can lie; few or many."""
    kind, share = draw.randrange(4), draw.choice((0.05, 0.2, 0.6))
    pieces = list(own_pieces(floor)) if kind == 0 else drawn_laying(draw, floor)
    if kind == 3:
        pieces = (*pieces, *drawn_laying(draw, floor))
    return tuple(sorted({piece for piece in pieces if draw.random() < share}))


def each_told(small, great):
    """Drawn TOLD of small FLOORS, as many, and of great ones."""
    for floor in [*SMALL, *GREAT]:
        for seed in range(small if floor in SMALL else great):
            yield floor, drawn_told(random.Random(f"{floor} {seed}"), floor)


def drawn_ring(draw, floor):
    """A RING that one goes STEP by STEP, until one is back."""
    ring = [draw.choice(own_faces(floor))]
    while len(ring) < 3 or ring[-1] != ring[0]:
        ring.append(draw.choice(sorted(own_steps(floor)[ring[-1]])))
    return tuple(ring)


class Examples(unittest.TestCase):
    def test_examples(self):
        check_transcript(self, EXAMPLES, [errors, module])


class WhatIsTold(unittest.TestCase):
    def test_is_told(self):
        for floor, told in each_told(40, 10):
            self.assertIs(is_told(floor, told), True)
            self.assertIs(is_told(floor, list(told)), False)
            if told:
                self.assertIs(is_told(floor, (list(told[0]), *told[1:])), False)
                self.assertIs(is_told(floor, told + told[-1:]), False)
            if len(told) > 1:
                self.assertIs(is_told(floor, told[::-1]), False)
        for floor in SMALL:
            self.assertIs(is_told(floor, tuple(own_pieces(floor))), True)
            for piece in itertools.product(range(-1, 4 * floor[0] + 1), range(-1, 4 * floor[1] + 1), range(-1, 5)):
                self.assertIs(is_told(floor, (piece,)), piece in own_pieces(floor))

    def test_is_told_of_any_value(self):
        for thing in [*UNFIT_TOLD, [], list(THREE), (list(THREE[0]),), ((1, 0, 1),) * 3000, tuple(range(3000))]:
            self.assertIs(is_told(SQUARE, thing), False)
        self.assertIs(is_told(SQUARE, ()), True)
        self.assertIs(is_told(thing=THREE, floor=[2, 2]), True)

    def test_signs_and_ties(self):
        for floor, told in each_told(40, 10):
            self.assertEqual(signs_told(floor, told), tuple(sorted(own_signs_told(floor, told))))
            self.assertEqual(ties_told(floor, told), tuple(sorted(own_ties_told(floor, told))))
            self.assertEqual(both_ways(floor, told), tuple(own_both_ways(floor, told)))
        for floor in FLOORS:
            told = tuple(own_pieces(floor))
            self.assertEqual(len(signs_told(floor, told)), 2 * len(own_blocks(floor)))
            self.assertEqual(both_ways(floor, told), tuple(own_ties(floor)))
            self.assertEqual((signs_told(floor, ()), ties_told(floor, ()), both_ways(floor, ())), ((), (), ()))

    def test_of_layings(self):
        for floor in FLOORS:
            laying = drawn_laying(random.Random(1), floor)
            signs = signs_told(floor, laying)
            self.assertEqual([block for block, _ in signs], own_blocks(floor))
            self.assertEqual(both_ways(floor, laying), ())
            self.assertEqual([tie for tie, _ in ties_told(floor, laying)], own_ties(floor))

    def test_two_of_one_block_and_sign(self):
        for floor in SMALL:
            for block in own_blocks(floor):
                for sign in (1, -1):
                    two = tuple(sorted(piece for piece, (blocks, own, _) in own_pieces(floor).items()
                                       if blocks[0] == block and own == sign))
                    if len(two) == 2 and own_ties_told(floor, two):
                        self.assertEqual(len(both_ways(floor, two)), 1)

    def test_by_name_and_with_lists(self):
        self.assertEqual(signs_told(told=listed(THREE[:1]), floor=[2, 2]), (((0, 0), 1), ((1, 0), 1)))
        self.assertEqual(ties_told(told=listed(THREE[1:]), floor=[2, 2]), ((((0, 0), (1, 0)), "tied"),))
        self.assertEqual(both_ways(told=[], floor=[2, 2]), ())
        self.assertEqual(bound(other=["dot", 0, 0], face=["rim"], told=listed(THREE), floor=[2, 2]), 1)
        self.assertEqual(ring_bound(ring=listed(RING), told=listed(THREE), floor=[2, 2]), -2)


class Bounds(unittest.TestCase):
    def test_bounds(self):
        for floor, told in each_told(12, 2):
            bounds = own_bounds(floor, told)
            told_faces = own_faces(floor)
            for face in told_faces[::1 + len(told_faces) // 20]:
                for other in own_steps(floor)[face]:
                    self.assertEqual(bound(floor, told, face, other), bounds[face, other])
                    self.assertEqual(bound(floor, told, other, face), bounds[other, face])
                for other in told_faces[::1 + len(told_faces) // 20]:
                    if other not in own_steps(floor)[face]:
                        check_raises(self, "CanNot()", bound, floor, told, face, other)
        check_raises(self, "CanNot()", bound, [2, 2], listed(THREE), ["rim"], ["rim"])

    def test_rings(self):
        for floor, told in each_told(20, 4):
            bounds, draw = own_bounds(floor, told), random.Random(str(told))
            for _ in range(5):
                ring = drawn_ring(draw, floor)
                many = ring_bound(floor, told, ring)
                self.assertEqual(many, own_sum(bounds, ring))
                self.assertEqual((many % 2, len(ring) % 2), (0, 1))
                self.assertIs(is_falling_ring(floor, told, ring), many < 0)
                self.assertIs(is_falling_ring(floor, told, list(ring)), False)
                self.assertIs(is_falling_ring(floor, told, ring[:-1]), False)


class FallingRings(unittest.TestCase):
    def check_ring(self, floor, told):
        ring, bounds = falling_ring(floor, told), own_bounds(floor, told)
        self.assertIsInstance(ring, tuple)
        self.assertGreaterEqual(len(ring), 3)
        self.assertEqual(ring[0], ring[-1])
        self.assertLessEqual(own_sum(bounds, ring), -2)
        self.assertIs(is_falling_ring(floor, told, ring), True)
        self.assertEqual(ring_bound(floor, told, ring), own_sum(bounds, ring))
        self.assertEqual(falling_ring(list(floor), listed(told)), ring)

    def test_wherever_there_is_one(self):
        falling = 0
        for floor, told in each_told(50, 0):
            if some_ring_falls(floor, told):
                falling += 1
                self.check_ring(floor, told)
            else:
                check_raises(self, "CanNot()", falling_ring, floor, told)
        self.assertGreater(falling, 100)

    def test_on_great_floors(self):
        falling = 0
        for floor, told in each_told(0, 12):
            if caught(falling_ring, floor, told) is None:
                falling += 1
                self.check_ring(floor, told)
            elif floor in ((3, 3), (2, 5)):
                self.assertFalse(some_ring_falls(floor, told))
        self.assertGreater(falling, 15)
        for floor in FLOORS:
            self.check_ring(floor, tuple(own_pieces(floor)))
            check_raises(self, "CanNot()", falling_ring, floor, ())
            check_raises(self, "CanNot()", falling_ring, floor, drawn_laying(random.Random(2), floor))

    def test_far_round(self):
        """By its dots' heights, 1 at one side and 7 in the middle, no short RING falls."""
        floor = (8, 8)
        sign = {(i, i): -1 if i % 2 else 1 for i in range(8)}
        told = [piece for piece, (blocks, own, _) in own_pieces(floor).items() if sign.get(blocks[0]) == own]
        up = tuple(sorted({min(own for own in told if own_pieces(floor)[own][0][0] == block) for block in sign}))
        check_raises(self, "CanNot()", falling_ring, floor, up)
        for i, j in ((4, 4), (4, 5), (5, 6), (1, 9), (12, 3)):
            for piece, (blocks, _, _) in own_pieces(floor).items():
                if blocks[0] == (i, j):
                    more = tuple(sorted({*up, piece}))
                    if some_ring_falls_from(floor, more):
                        self.check_ring(floor, more)
                    else:
                        check_raises(self, "CanNot()", falling_ring, floor, more)

    def test_one_block_told_both_signs(self):
        for floor in SMALL:
            for one, two in itertools.combinations(own_pieces(floor), 2):
                (blocks, sign, _), (others, other, _) = own_pieces(floor)[one], own_pieces(floor)[two]
                shared = set(blocks) & set(others)
                if sign != other and shared:
                    block = min(shared)
                    ring = (own_dot(block), own_outer(floor, block), own_dot(block))
                    self.assertIs(is_falling_ring(floor, (one, two), ring), True)
                    self.assertEqual(ring_bound(floor, (one, two), ring), -2)
                    self.check_ring(floor, (one, two))

    def test_layings_that_have_them(self):
        for floor in SMALL:
            draw = random.Random(str(floor))
            layings = [set(own) for own in own_layings(floor)]
            for _ in range(60):
                told = drawn_told(draw, floor)
                some = any(set(told) <= own for own in layings)
                falls = caught(falling_ring, floor, told) is None
                self.assertIs(some, not falls and both_ways(floor, told) == ())

    def test_each_two_of_three_stand(self):
        for told in itertools.combinations(THREE, 2):
            check_raises(self, "CanNot()", falling_ring, SQUARE, told)
        self.check_ring(SQUARE, THREE)

    def test_is_falling_ring_of_any_value(self):
        for thing in [*UNFIT_RINGS, list(RING), (list(RING[0]), *RING[1:]), RING[::-1], RING[1:] + RING[1:2]]:
            falls = thing == RING[1:] + RING[1:2]
            self.assertIs(is_falling_ring(SQUARE, THREE, thing), falls)
        self.assertIs(is_falling_ring(thing=RING, told=listed(THREE), floor=[2, 2]), True)
        self.assertIs(is_falling_ring(SQUARE, THREE, RING + RING[1:] * 3000), True)
        self.assertIs(is_falling_ring(SQUARE, THREE, RING[1:] + (RIM, ("dot", 0, 1), RIM)), False)


def some_ring_falls_from(floor, told):
    """Whether heights that sink by bounds, all 0 at first, sink without an end: below 0 less all STEPS."""
    bounds, heights = own_bounds(floor, told), {face: 0 for face in own_faces(floor)}
    while True:
        lower = {other: min(heights[face] + bounds[face, other] for face in own_steps(floor)[other])
                 for other in heights}
        lower = {face: min(height, heights[face]) for face, height in lower.items()}
        if lower == heights:
            return False
        if min(lower.values()) < -len(bounds):
            return True
        heights = lower


class Refusals(unittest.TestCase):
    def test_floors(self):
        odd = [*ODD, (0, 1), (1, 0), (), [], (1, 1, 1), 1]
        for function, more in {
            is_told: [None], signs_told: [()], ties_told: [()], both_ways: [()], bound: [(), RIM, RIM],
            ring_bound: [(), RING], falling_ring: [()], is_falling_ring: [(), None],
        }.items():
            check_unfit(self, function, [None, *more], 0, odd)

    def test_told(self):
        for function, more in {
            signs_told: [], ties_told: [], both_ways: [], bound: [RIM, RIM], ring_bound: [RING], falling_ring: [],
            is_falling_ring: [None],
        }.items():
            check_unfit(self, function, [SQUARE, None, *more], 1, UNFIT_TOLD)
        laying = some_laying((2, 1))
        self.assertIsNone(caught(signs_told, (2, 1), laying))
        check_raises(self, "Unfit()", signs_told, (1, 2), laying)

    def test_faces(self):
        check_unfit(self, bound, [SQUARE, THREE, None, RIM], 2, UNFIT_FACES)
        check_unfit(self, bound, [SQUARE, THREE, RIM, None], 3, UNFIT_FACES)
        check_raises(self, "Unfit()", bound, (1, 2), (), RIM, ("inner", 0, 0))

    def test_rings(self):
        check_unfit(self, ring_bound, [SQUARE, THREE, None], 2, UNFIT_RINGS)
        check_raises(self, "Unfit()", ring_bound, (1, 2), (), RING)


if __name__ == "__main__":
    unittest.main()
