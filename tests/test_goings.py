"""Rounds gone: point [13]."""

import itertools
import random
import unittest

from teefloors import errors, goings as module
from teefloors.goings import (
    all_turned, all_with_lot, are_goings, goings_of, height_by_rounds, laying_of_goings, outer_rounds, round_turned,
    rounds_about, turns_of, way_gone,
)
from teefloors.layings import all_layings, is_laying, some_laying
from tests.helpers import FLOORS, ODD, check_raises, check_transcript, check_unfit, listed
from tests.own import (
    RIM, SMALL, drawn_lots, each_laying, each_lot, own_blocks, own_faces, own_goal, own_goings, own_heights,
    own_laying_of_goings, own_lot, own_lots, own_outer_rounds, own_rounds, own_signs, own_ties, own_within,
)
from tests.test_ties import UNFIT_LOTS

EXAMPLES = r"""
>>> one, two, four = (1, 1), (2, 1), (2, 2)
>>> laying_of_goings(one, (), (1,)), laying_of_goings(one, (), (-1,))
(((0, 2, 0), (1, 0, 1), (2, 3, 3), (3, 1, 2)), ((0, 1, 0), (1, 3, 3), (2, 0, 1), (3, 2, 2)))
>>> tie = ((0, 0), (1, 0))
>>> tied = laying_of_goings(two, (tie,), (1,))
>>> tied, goings_of(two, tied), len(all_with_lot(two, ())), are_goings(two, (tie,), (1, -1))
(((0, 2, 0), (1, 0, 1), (2, 3, 3), (3, 1, 3), (4, 2, 1), (5, 0, 1), (6, 3, 3), (7, 1, 2)), (1,), 4, False)
>>> way_gone(two, tied, (0, 0))
((0, 0), (1, 0), (2, 0), (3, 0), (3, 1), (2, 1), (1, 1), (0, 1))
>>> ring = (((0, 0), (0, 1)), ((0, 0), (1, 0)), ((0, 1), (1, 1)), ((1, 0), (1, 1)))
>>> outer_rounds(four, ring), turns_of(four, ring, (1, 1)), rounds_about(four, ring, ("inner", 0, 0)), rounds_about(four, ring, ("dot", 1, 0)), rounds_about(four, ring, ("rim",))
((0,), (1, -1), (0, 1), (0,), ())
>>> like, unlike = laying_of_goings(four, ring, (1, 1)), laying_of_goings(four, ring, (1, -1))
>>> [height_by_rounds(four, own, ("inner", 0, 0)) for own in (like, unlike)], height_by_rounds(four, like, ("dot", 0, 1)), round_turned(four, like, (2, 1)) == unlike, goings_of(four, all_turned(four, unlike))
([0, 2], 1, True, (-1, 1))
>>> way_gone(four, like, (4, 0))
raises NoBlock(block=(4, 0))
>>> laying_of_goings(two, (tie,), (1, 1))
raises Unfit()
"""

ONE = ((0, 1, 0), (1, 3, 3), (2, 0, 1), (3, 2, 2))
SQUARE = (2, 2)
SOUTH, NORTH, WEST, EAST = ((0, 0), (1, 0)), ((0, 1), (1, 1)), ((0, 0), (0, 1)), ((1, 0), (1, 1))
RING = (WEST, SOUTH, NORTH, EAST)


def own_way(laying, block):
    """The BLOCKS as the PIECES go, from this one on."""
    goals = {(x // 2, y // 2): own_goal((x, y, way)) for x, y, way in laying}
    way = [block]
    while goals[way[-1]] != block:
        way.append(goals[way[-1]])
    return tuple(way)


def own_turns(floor, lot, goings):
    outer = own_outer_rounds(floor, lot)
    return tuple(sign if number in outer else -sign for number, sign in enumerate(goings))


class Examples(unittest.TestCase):
    def test_examples(self):
        check_transcript(self, EXAMPLES, [errors, module])


class ThereAndBack(unittest.TestCase):
    def test_of_layings(self):
        for floor, laying in each_laying(4):
            goings = goings_of(floor, laying)
            self.assertEqual(goings, own_goings(floor, laying))
            self.assertEqual(laying_of_goings(floor, own_lot(laying), goings), laying)

    def test_of_goings(self):
        for floor, lot in each_lot(2):
            many = len(own_rounds(floor, lot))
            told = list(itertools.product((1, -1), repeat=many)) if many <= 6 else []
            draw = random.Random(str(lot))
            for goings in [*told, tuple(draw.choice((1, -1)) for _ in range(many))]:
                laying = laying_of_goings(floor, lot, goings)
                self.assertEqual(laying, own_laying_of_goings(floor, lot, goings))
                self.assertTrue(is_laying(floor, laying))
                self.assertEqual(own_lot(laying), lot)
                self.assertEqual(goings_of(floor, laying), goings)

    def test_all_with_lot(self):
        for floor in SMALL:
            every = []
            for lot in own_lots(floor):
                many = len(own_rounds(floor, lot))
                told = all_with_lot(floor, lot)
                self.assertIsInstance(told, list)
                self.assertEqual(len(told), 2 ** many)
                goings = itertools.product((1, -1), repeat=many)
                self.assertEqual(told, sorted(own_laying_of_goings(floor, lot, own) for own in goings))
                every.extend(told)
            self.assertEqual(sorted(every), all_layings(floor))

    def test_all_with_lot_of_great_floors(self):
        # A comb ties all DOTS without a ring, so it has one ROUND; with each tooth struck out one more.
        comb = tuple(tie for tie in own_ties((8, 8)) if tie[0][0] == tie[1][0] or tie[0][1] == 0)
        for fewer, many in ((0, 2), (4, 32), (9, 1024)):
            told = all_with_lot((8, 8), comb[fewer:])
            self.assertEqual((len(told), told), (many, sorted(set(told))))
            for laying in told[::100]:
                self.assertTrue(is_laying((8, 8), laying))
                self.assertEqual(own_lot(laying), comb[fewer:])
        check_raises(self, "TooMany()", all_with_lot, (8, 8), comb[10:])

    def test_ten_rounds_and_more(self):
        told = all_with_lot((1, 10), ())
        self.assertEqual(len(told), 1024)
        self.assertEqual(told, sorted(set(told)))
        ties = own_ties((4, 4))
        # Each TIE that joins two parts makes one ROUND less, each that closes a ring one more.
        for lot in drawn_lots((4, 4), 40):
            many = len(own_rounds((4, 4), lot))
            if many > 10:
                check_raises(self, "TooMany()", all_with_lot, (4, 4), lot)
            else:
                self.assertEqual(len(all_with_lot((4, 4), lot)), 2 ** many)
        self.assertEqual(len(own_rounds((4, 4), tuple(ties))), 10)
        self.assertEqual(len(all_with_lot((4, 4), ties)), 1024)
        check_raises(self, "TooMany()", all_with_lot, (1, 11), ())
        check_raises(self, "TooMany()", all_with_lot, [4, 4], [])
        check_raises(self, "TooMany()", all_with_lot, (8, 8), tuple(own_ties((8, 8))))
        self.assertEqual(len(all_with_lot((1, 11), (((0, 4), (0, 5)),))), 1024)


class Ways(unittest.TestCase):
    def test_way_gone(self):
        for floor, laying in each_laying(2):
            signs, lot = own_signs(laying), own_lot(laying)
            rounds = own_rounds(floor, lot)
            told = own_blocks(floor)
            for block in told[::1 + len(told) // 16]:
                way = way_gone(floor, laying, block)
                self.assertEqual(way, own_way(laying, block))
                self.assertIn(tuple(sorted(way)), rounds)
                self.assertEqual(len({signs[own] for own in way}), 1)

    def test_round_turned(self):
        for floor, laying in each_laying(2):
            lot, goings, heights = own_lot(laying), own_goings(floor, laying), own_heights(floor, laying)
            within = own_within(floor, lot)
            for number, own in enumerate(own_rounds(floor, lot)[:12]):
                turned = round_turned(floor, laying, own[-1])
                self.assertTrue(is_laying(floor, turned))
                self.assertEqual(round_turned(floor, turned, own[0]), laying)
                self.assertEqual(own_lot(turned), lot)
                expected = goings[:number] + (-goings[number],) + goings[number + 1:]
                self.assertEqual(own_goings(floor, turned), expected)
                changed = {face: height - heights[face] for face, height in own_heights(floor, turned).items()}
                unlike = {face for face in changed if changed[face]}
                self.assertEqual(unlike, {face for face in within if number in within[face]})
                self.assertEqual(len({changed[face] for face in unlike}), 1)
                self.assertEqual({abs(changed[face]) for face in unlike}, {2})

    def test_all_turned(self):
        for floor, laying in each_laying(3):
            turned = all_turned(floor, laying)
            self.assertEqual(own_lot(turned), own_lot(laying))
            self.assertEqual(own_goings(floor, turned), tuple(-own for own in own_goings(floor, laying)))
            self.assertEqual(all_turned(floor, turned), laying)

    def test_by_name_and_with_lists(self):
        self.assertEqual(way_gone(block=[0, 1], laying=listed(ONE), floor=[1, 1]), own_way(ONE, (0, 1)))
        other = round_turned(block=[0, 1], laying=listed(ONE), floor=[1, 1])
        self.assertEqual(other, all_turned(laying=listed(ONE), floor=[1, 1]))
        self.assertEqual(laying_of_goings(goings=[-1], lot=[], floor=[1, 1]), ONE)
        self.assertEqual(turns_of(goings=[1, 1], lot=listed(RING), floor=[2, 2]), (1, -1))


class Within(unittest.TestCase):
    def test_rounds_about(self):
        for floor, lot in each_lot(2):
            within = own_within(floor, lot)
            told = own_faces(floor)
            for face in told[::1 + len(told) // 20]:
                self.assertEqual(rounds_about(floor, lot, face), tuple(sorted(within[face])))
            self.assertEqual(rounds_about(floor, lot, RIM), ())

    def test_outer_rounds_and_turns(self):
        for floor, lot in each_lot(2):
            self.assertEqual(outer_rounds(floor, lot), own_outer_rounds(floor, lot))
            draw = random.Random(str(lot))
            goings = tuple(draw.choice((1, -1)) for _ in own_rounds(floor, lot))
            self.assertEqual(turns_of(floor, lot, goings), own_turns(floor, lot, goings))

    def test_heights(self):
        for floor, laying in each_laying(4):
            heights = own_heights(floor, laying)
            told = own_faces(floor)
            for face in told[::1 + len(told) // 12]:
                self.assertEqual(height_by_rounds(floor, laying, face), heights[face])
            self.assertEqual(height_by_rounds(floor, laying, RIM), 0)

    def test_on_each_floor(self):
        for floor in FLOORS:
            laying = some_laying(floor)
            face = own_faces(floor)[0]
            self.assertEqual(goings_of(floor, laying), (1,) * (floor[0] * floor[1]))
            self.assertEqual(height_by_rounds(floor, laying, face), own_heights(floor, laying)[face])


class Things(unittest.TestCase):
    def test_are_goings(self):
        for floor, lot in each_lot(1):
            many = len(own_rounds(floor, lot))
            self.assertIs(are_goings(floor, lot, (1,) * many), True)
            self.assertIs(are_goings(floor, lot, (-1,) * many), True)
            self.assertIs(are_goings(floor, lot, [1] * many), False)
            self.assertIs(are_goings(floor, lot, (1,) * (many - 1)), False)
            self.assertIs(are_goings(floor, lot, (1,) * (many + 1)), False)
            self.assertIs(are_goings(floor, lot, (1,) * (many - 1) + (0,)), False)
            self.assertIs(are_goings(floor, lot, (True,) * many), False)
        for thing in [*ODD, (1.0, 1), (1, 1, 1), (2, 1), (1, -2), (1, "1"), (1, None), (1,) * 9000, (), 1, [1, 1]]:
            self.assertIs(are_goings(SQUARE, RING, thing), False)
        self.assertIs(are_goings(thing=(1, -1), lot=listed(RING), floor=[2, 2]), True)


class Refusals(unittest.TestCase):
    def test_floors(self):
        odd = [*ODD, (0, 1), (1, 0), (), [], (1, 1, 1), 1]
        for function, more in {
            are_goings: [(), None], goings_of: [ONE], laying_of_goings: [(), ()], all_with_lot: [()],
            way_gone: [ONE, (9, 9)], round_turned: [ONE, (9, 9)], all_turned: [ONE], rounds_about: [(), ("dot", 9, 9)],
            outer_rounds: [()], turns_of: [(), ()], height_by_rounds: [ONE, ("dot", 9, 9)],
        }.items():
            check_unfit(self, function, [None, *more], 0, odd)

    def test_lots(self):
        for function, more in {
            are_goings: [None], laying_of_goings: [(1, 1, 1, 1)], all_with_lot: [], rounds_about: [("dot", 9, 9)],
            outer_rounds: [], turns_of: [(1, 1, 1, 1)],
        }.items():
            check_unfit(self, function, [SQUARE, None, *more], 1, UNFIT_LOTS)
        check_unfit(self, all_with_lot, [(4, 4), None], 1, UNFIT_LOTS[-3:])

    def test_layings(self):
        odd = [*ODD, 0, (), [], ONE[:3], ONE[::-1], ONE * 2, ONE + ONE[3:], (*ONE[:3], (3, 2, 1)), some_laying((1, 2))]
        for function, more in {
            goings_of: [], way_gone: [(9, 9)], round_turned: [(9, 9)], all_turned: [],
            height_by_rounds: [("dot", 9, 9)],
        }.items():
            check_unfit(self, function, [(1, 1), None, *more], 1, odd)

    def test_goings(self):
        odd = [*ODD, 0, 1, (), [], (1,), (1, 1, 1), (1, 0), (0, 0), (2, -1), (1, True), (1, 1.0), (1, "1"), ((1, 1),)]
        for function in (laying_of_goings, turns_of):
            check_unfit(self, function, [SQUARE, RING, None], 2, odd)

    def test_blocks(self):
        for function in (way_gone, round_turned):
            check_unfit(self, function, [(1, 1), ONE, None], 2, [*ODD, (), [], (0,), (0, 0, 0), 0, ((0, 0),)])
            for block in ((-1, 0), (0, -1), (2, 0), (0, 2)):
                check_raises(self, f"NoBlock(block={block})", function, (1, 1), ONE, block)
                check_raises(self, f"NoBlock(block={block})", function, [1, 1], listed(ONE), list(block))

    def test_faces(self):
        odd = [value for value in ODD if value not in (["rim"],)]
        odd = [*odd, (), [], 0, "rim", ("inner", 0), ("Dot", 0, 0)]
        for function, ahead in {rounds_about: RING, height_by_rounds: some_laying(SQUARE)}.items():
            check_unfit(self, function, [SQUARE, ahead, None], 2, odd)
            for face in (("inner", 1, 0), ("inner", 0, -1), ("dot", 2, 0), ("dot", 0, 2), ("dot", -1, 0)):
                check_raises(self, f"NoFace(face={face})", function, SQUARE, ahead, face)
                check_raises(self, f"NoFace(face={face})", function, [2, 2], listed(ahead), list(face))


if __name__ == "__main__":
    unittest.main()
