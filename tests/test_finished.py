"""Floors finished: point [18], and point [1] (c)."""

import itertools
import random
import unittest

from teefloors import errors, finished as module, told as told_module
from teefloors.finished import (
    can_finish, can_lie_beside, finished, greatest_finished, height_span, is_why_not, least_finished, sure_pieces,
    sure_ties, why_not,
)
from teefloors.layings import some_laying
from tests.helpers import FLOORS, ODD, caught, check_raises, check_transcript, check_unfit, listed
from tests.own import GREAT, RIM, SMALL, as_heights, as_rise, drawn_laying, own_faces, own_greatest, own_heights
from tests.own_told import (
    each_drawn_told, each_great_told, heights_of_laying, is_own_laying, own_having, words_of_laying,
)
from tests.test_told import EXAMPLES as AHEAD
from tests.test_told import (
    RING, SQUARE, THREE, UNFIT_FACES, UNFIT_RINGS, UNFIT_TOLD, own_both_ways, own_bounds, own_pieces, own_sum,
    own_ties_told, some_ring_falls,
)

# The names of [17] are those of the nearest examples ahead.
EXAMPLES = AHEAD + r"""
>>> can_finish(small, (low,)), can_finish(small, (tied, (2, 4, 1))), why_not(small, (tied, (2, 4, 1)))
(True, False, ('tie', ((0, 0), (0, 1))))
>>> finished(small, (tied,))
((0, 1, 0), (0, 5, 0), (1, 3, 2), (1, 7, 3), (2, 0, 1), (2, 4, 0), (3, 2, 2), (3, 6, 2))
>>> least_finished(small, (low,)), greatest_finished(small, (low,)), greatest_finished(small, ())
((((-1, -1),), ()), (((-1, 1),), ()), (((1, 1),), ()))
>>> sure_pieces(small, (low,)), sure_ties(small, (low,)), sure_ties(small, (tied,)), sure_pieces(small, ())
(((0, 1, 0), (2, 0, 1), (3, 2, 2)), (), ((((0, 0), (0, 1)), 'tied'),), ())
>>> [can_finish(square, own) for own in (three, three[:2], three[1:], three[::2])], is_why_not(square, three, ("ring", ring))
([False, True, True, True], True)
>>> greatest_finished(square, three[:1]), height_span(square, three[:1], ("inner", 0, 0)), height_span(square, three[:2], ("inner", 0, 0))
((((1, 1), (1, 1)), ((2,),)), (0, 2), (2, 2))
>>> [can_lie_beside(square, three[:2], own) for own in ((0, 2, 0), (5, 7, 3), (1, 1, 0))]
[True, False, False]
>>> sure_ties(square, three[1:]), sure_pieces(square, three[:1])
(((((0, 0), (1, 0)), 'tied'),), ((0, 2, 0), (1, 0, 1)))
>>> finished(square, three)
raises CanNot()
"""

SMALL_FLOOR, LOW, TIED = (1, 2), (0, 1, 0), (1, 3, 2)
BOTH = (TIED, (2, 4, 1))
OFF = [(-1, 0, 0), (0, 0, 0), (0, 0, 2), (10 ** 6, 3, 1), (1, 1, 0), (-5, -10 ** 6, 3)]
NONE_HAS_IT = [least_finished, greatest_finished, sure_pieces, sure_ties, finished]


def check_reason(case, floor, told, reason):
    """It is a TIE told both ways, or a RING that falls."""
    word, what = reason
    if word == "tie":
        case.assertIn(what, own_both_ways(floor, told))
    else:
        case.assertEqual(word, "ring")
        case.assertGreaterEqual(len(what), 3)
        case.assertEqual(what[0], what[-1])
        case.assertLess(own_sum(own_bounds(floor, told), what), 0)
    case.assertIs(is_why_not(floor, told, reason), True)
    case.assertIs(is_why_not(floor, told, list(reason)), False)
    case.assertIs(is_why_not(floor, told, (word, list(what))), False)
    case.assertIs(is_why_not(floor, told, ({"tie": "ring", "ring": "tie"}[word], what)), False)


class Examples(unittest.TestCase):
    def test_examples(self):
        check_transcript(self, EXAMPLES, [errors, told_module, module])


class BesideAllLayings(unittest.TestCase):
    def test_finished_or_not(self):
        counts = {True: 0, False: 0}
        for floor, told in each_drawn_told(60):
            having = own_having(floor, told)
            counts[having != []] += 1
            self.assertIs(can_finish(floor, told), having != [])
            self.assertIs(can_finish(list(floor), listed(told)), having != [])
            if having:
                self.assertIn(finished(floor, told), having)
                self.assertEqual(finished(list(floor), listed(told)), finished(floor, told))
                check_raises(self, "CanNot()", why_not, floor, told)
                continue
            check_reason(self, floor, told, why_not(floor, told))
            self.assertEqual(why_not(list(floor), listed(told)), why_not(floor, told))
            for function in NONE_HAS_IT:
                check_raises(self, "CanNot()", function, floor, told)
            check_raises(self, "CanNot()", height_span, floor, told, RIM)
            check_raises(self, "CanNot()", height_span, list(floor), listed(told), ["dot", 0, 0])
        self.assertGreater(min(counts.values()), 100)

    def test_a_ring_or_a_tie_is_all_that_bars(self):
        for floor, told in each_drawn_told(40):
            barred = some_ring_falls(floor, told) or own_both_ways(floor, told) != []
            self.assertIs(can_finish(floor, told), not barred)

    def test_rises(self):
        for floor, told in each_drawn_told(40):
            having = own_having(floor, told)
            if having:
                heights = [heights_of_laying(floor, laying) for laying in having]
                spans = {face: sorted({own[face] for own in heights}) for face in own_faces(floor)}
                least, most = ({face: span[at] for face, span in spans.items()} for at in (0, -1))
                self.assertEqual(least_finished(floor, told), as_rise(floor, least))
                self.assertEqual(greatest_finished(floor, told), as_rise(floor, most))
                self.assertIn(least, heights)
                self.assertIn(most, heights)
                for face, span in spans.items():
                    self.assertEqual(height_span(floor, told, face), (span[0], span[-1]))
                    self.assertEqual(span, list(range(span[0], span[-1] + 1, 2)))

    def test_can_lie_beside(self):
        for floor, told in each_drawn_told(24):
            beside = {piece for laying in own_having(floor, told) for piece in laying}
            for piece in [*own_pieces(floor), *OFF, (0, 4 * floor[1], 1), (4 * floor[0], 0, 2)]:
                self.assertIs(can_lie_beside(floor, told, piece), piece in beside)
            for x, y, way in itertools.product(range(4), range(4), range(4)):
                self.assertIs(can_lie_beside(floor, told, (x, y, way)), (x, y, way) in beside)

    def test_sure(self):
        for floor, told in each_drawn_told(48):
            having = own_having(floor, told)
            if having:
                pieces = set(having[0]).intersection(*having)
                words = frozenset.intersection(*[words_of_laying(floor, laying) for laying in having])
                self.assertEqual(sure_pieces(floor, told), tuple(sorted(pieces)))
                self.assertEqual(sure_ties(floor, told), tuple(sorted(words)))
                self.assertLessEqual(set(told), pieces)

    def test_ties_by_ends_and_sides(self):
        """A TIE can be tied beside told if it is not told as cut and its ends can be of one height, and so on."""
        for floor, told in each_drawn_told(24):
            having = own_having(floor, told)
            ways = {pair for laying in having for pair in words_of_laying(floor, laying)}
            sure = {(tie, word) for tie, word in ways if len({(tie, "tied"), (tie, "cut")} & ways) == 1}
            if having:
                self.assertEqual(set(sure_ties(floor, told)), sure)

    def test_all_pieces_of_a_laying(self):
        for floor in SMALL:
            for laying in own_having(floor, ())[::13]:
                self.assertEqual(finished(floor, laying), laying)
                self.assertEqual(sure_pieces(floor, laying), laying)
                self.assertEqual(set(sure_ties(floor, laying)), set(words_of_laying(floor, laying)))
                self.assertEqual(least_finished(floor, laying), greatest_finished(floor, laying))

    def test_each_two_of_three_stand(self):
        for told in itertools.combinations(THREE, 2):
            self.assertIs(can_finish(SQUARE, told), True)
        self.assertEqual(len(own_having(SQUARE, THREE[:2])), 1)
        self.assertEqual((finished(SQUARE, THREE[:2]),), tuple(own_having(SQUARE, THREE[:2])))


class GreatFloors(unittest.TestCase):
    def test_finished(self):
        for floor, laying, told in each_great_told(5):
            self.assertIs(can_finish(floor, told), True)
            other = finished(floor, told)
            self.assertTrue(is_own_laying(floor, other))
            self.assertEqual(list(other), sorted(other))
            self.assertLessEqual(set(told), set(other))
            least, most = as_heights(least_finished(floor, told)), as_heights(greatest_finished(floor, told))
            for own in (own_heights(floor, laying), own_heights(floor, other)):
                for face in own_faces(floor):
                    self.assertLessEqual(least[face], own[face])
                    self.assertLessEqual(own[face], most[face])
            check_raises(self, "CanNot()", why_not, floor, told)

    def test_spans_are_reached(self):
        for floor, _, told in each_great_told(2):
            for rise in (least_finished(floor, told), greatest_finished(floor, told)):
                heights, bounds = as_heights(rise), own_bounds(floor, told)
                for (face, other), most in bounds.items():
                    self.assertLessEqual(heights[other] - heights[face], most)
                    self.assertEqual(abs(heights[other] - heights[face]), 1)
            draw = random.Random(str(told))
            for face in draw.sample(own_faces(floor), 4):
                low, high = height_span(floor, told, face)
                self.assertEqual((as_heights(least_finished(floor, told))[face],
                                  as_heights(greatest_finished(floor, told))[face]), (low, high))

    def test_sure(self):
        for floor, laying, told in each_great_told(3):
            sure, draw = sure_pieces(floor, told), random.Random(str(told))
            self.assertLessEqual(set(told), set(sure))
            self.assertLessEqual(set(sure), set(laying))
            self.assertLessEqual(set(sure_ties(floor, told)), own_ties_told(floor, laying))
            self.assertLessEqual(own_ties_told(floor, sure), set(sure_ties(floor, told)))
            for piece in draw.sample(list(own_pieces(floor)), 12):
                block = (piece[0] // 2, piece[1] // 2)
                (own,) = [one for one in laying if (one[0] // 2, one[1] // 2) == block]
                beside = can_lie_beside(floor, told, piece)
                if beside:
                    more = finished(floor, tuple(sorted({*told, piece})))
                    self.assertIn(piece, more)
                    self.assertTrue(is_own_laying(floor, more))
                self.assertTrue(beside or own != piece)
                if own in sure:
                    self.assertIs(beside, own == piece)

    def test_none(self):
        falling = 0
        for floor in GREAT:
            for seed in range(6):
                draw = random.Random(f"{floor} {seed}")
                mixed = {*drawn_laying(draw, floor), *drawn_laying(draw, floor)}
                told = tuple(sorted(own for own in mixed if draw.random() < 0.1))
                error = caught(finished, floor, told)
                self.assertIs(can_finish(floor, told), error is None)
                if error is not None:
                    falling += 1
                    check_reason(self, floor, told, why_not(floor, told))
                    self.assertIs(can_lie_beside(floor, told, mixed.pop()), False)
        self.assertGreater(falling, 8)

    def test_nothing_told(self):
        for floor in FLOORS:
            high = own_greatest(floor)
            self.assertEqual(greatest_finished(floor, ()), as_rise(floor, high))
            self.assertEqual(least_finished(floor, []), as_rise(floor, {face: -own for face, own in high.items()}))
            self.assertEqual((sure_pieces(floor, ()), sure_ties(floor, ())), ((), ()))
            self.assertEqual(height_span(floor, (), ["dot", 0, 0]), (-1, 1))
            self.assertTrue(is_own_laying(floor, finished(floor, ())))

    def test_all_told(self):
        """256 PIECES, and all that can lie at once."""
        for floor in ((8, 8), (7, 8), (8, 1)):
            laying = some_laying(floor)
            self.assertEqual(finished(floor, laying), laying)
            self.assertEqual(sure_pieces(floor, laying), laying)
            told = tuple(own_pieces(floor))
            check_reason(self, floor, told, why_not(floor, told))


class Reasons(unittest.TestCase):
    def test_of_any_value(self):
        ring, tie = ("ring", RING), ("tie", ((0, 0), (0, 1)))
        things = [*ODD, (), ring[:1], (*ring, ring), RING, ("ring",), ("ring", RING[:3]), ("ring", RING[::-1]),
                  ("Ring", RING), ("tie", RING), (RING, "ring"), ("ring", list(RING)), list(ring), tie, (None, None),
                  (True, RING), ("ring", "ring"), ("tie", None), ("tie", ()), *[("ring", own) for own in UNFIT_RINGS]]
        for thing in things:
            self.assertIs(is_why_not(SQUARE, THREE, thing), False)
        self.assertIs(is_why_not(SQUARE, THREE, ring), True)
        self.assertIs(is_why_not(SQUARE, THREE, ("ring", RING + RING[1:] * 1000)), True)
        for thing in [*things, ("tie", [(0, 0), (0, 1)]), ("tie", ((0, 1), (0, 0))), ("tie", ((0, 0), (0, True))),
                      ("tie", ((False, 0), (0, 1))), ["tie", ((0, 0), (0, 1))], ("tie", ((0, 0), (1, 0)))]:
            self.assertIs(is_why_not(SMALL_FLOOR, BOTH, thing), thing == tie and type(thing) is tuple
                          and "True" not in repr(thing) and "False" not in repr(thing))
        # A TIE told once is no reason.
        self.assertIs(is_why_not(SMALL_FLOOR, (TIED,), tie), False)
        self.assertIs(is_why_not(thing=tie, told=listed(BOTH), floor=[1, 2]), True)

    def test_why_not_by_name(self):
        self.assertEqual(why_not(told=listed(BOTH), floor=[1, 2]), ("tie", ((0, 0), (0, 1))))
        self.assertEqual(height_span(face=["inner", 0, 0], told=listed(THREE[:1]), floor=[2, 2]), (0, 2))
        self.assertIs(can_lie_beside(piece=[0, 2, 0], told=listed(THREE[:2]), floor=[2, 2]), True)


class Refusals(unittest.TestCase):
    def test_floors(self):
        odd = [*ODD, (0, 1), (1, 0), (), [], (1, 1, 1), 1]
        for function, more in {
            can_finish: [()], finished: [()], why_not: [()], is_why_not: [(), None], least_finished: [()],
            greatest_finished: [()], height_span: [(), RIM], can_lie_beside: [(), LOW], sure_pieces: [()],
            sure_ties: [()],
        }.items():
            check_unfit(self, function, [None, *more], 0, odd)

    def test_told(self):
        for function, more in {
            can_finish: [], finished: [], why_not: [], is_why_not: [None], least_finished: [], greatest_finished: [],
            height_span: [RIM], can_lie_beside: [(0, 2, 0)], sure_pieces: [], sure_ties: [],
        }.items():
            check_unfit(self, function, [SQUARE, None, *more], 1, UNFIT_TOLD)

    def test_faces_and_pieces(self):
        odd = [*[value for value in ODD if value not in ((0, 0, 0), (0, 0, 4))], (0, 0, 4), (), [], 0, (0, 0), RIM,
               (0, 0, 0, 0), (LOW,), "010", (0.0, 0, 0), (0, 0, -1)]
        # Unfit() is ahead of CanNot(): none has THREE.
        for told in (THREE[:1], THREE):
            check_unfit(self, height_span, [SQUARE, told, None], 2, UNFIT_FACES)
            check_unfit(self, can_lie_beside, [SQUARE, told, None], 2, odd)
        check_raises(self, "Unfit()", height_span, (1, 2), (), ("inner", 0, 0))
        self.assertIs(can_lie_beside(SQUARE, THREE, (10 ** 6, -5, 3)), False)
        self.assertIs(can_lie_beside(SQUARE, THREE, THREE[0]), False)


if __name__ == "__main__":
    unittest.main()
