"""Fewest squares: point [16]."""

import random
import unittest

from teefloors import errors, fewest as module, rises, squares
from teefloors.fewest import farthest, fewest, first_faces, is_plan, many_squares, plan, shares
from teefloors.layings import some_laying
from tests.helpers import FLOORS, ODD, check_transcript, check_unfit, listed
from tests.own import (
    GREAT, SMALL, as_rise, drawn_laying, own_flat, own_greatest, own_heights, own_laying_of_rise, own_layings,
    own_steps,
)
from tests.own_deeds import drawn_plan, own_distances, own_forms, own_graph, own_way, unlike_heights
from tests.test_squares import EXAMPLES as AHEAD
from tests.test_squares import FIRST, LEFT, LONG, ODD_LAYINGS, PAIR, SECOND, odd_plans

# The names of [15] and of [11] are those of the nearest examples ahead.
EXAMPLES = AHEAD + r"""
>>> right = done(long, left, ("square", ("dot", 0, 0)))
>>> both = done(long, right, ("square", ("dot", 0, 1)))
>>> fewest(long, left, both), fewest(long, left, knot), shares(long, both, right), fewest(long, knot, both)
(2, 0, ((('dot', 0, 1), -1),), 2)
>>> first_faces(long, left, both), first_faces(long, left, knot), first_faces(long, right, left)
((('dot', 0, 0), ('dot', 0, 1)), (), (('dot', 0, 0),))
>>> is_plan(long, knot, both, (("pair", ((0, 0), (0, 1))),) + path[:2]), is_plan(long, left, left, path[:1] * 2), is_plan(long, left, left, path[2:] * 2)
(True, False, True)
>>> is_plan(long, left, both, plan(long, left, both)), many_squares(long, path), [farthest((1, own)) for own in (1, 2, 3)], farthest((2, 2)), farthest((3, 3))
(True, 2, [1, 2, 3], 6, 19)
>>> low, high = laying_of_rise((2, 2), (((-1, -1), (-1, -1)), ((-2,),)), ()), laying_of_rise((2, 2), (((1, 1), (1, 1)), ((2,),)), ())
>>> fewest((2, 2), low, high), shares((2, 2), low, high)[4], first_faces((2, 2), low, high)
(6, (('inner', 0, 0), 2), (('inner', 0, 0),))
>>> fewest(long, left, low)
raises Unfit()
"""


def drawn_pairs(many):
    """Pairs of drawn LAYINGS, of small FLOORS and of great ones."""
    for floor in [*SMALL, *GREAT]:
        for seed in range(many):
            draw = random.Random(seed)
            yield draw, floor, drawn_laying(draw, floor), drawn_laying(draw, floor)


def some_layings(floor, most):
    told = own_layings(floor)
    return told[::1 + (len(told) - 1) // most]


def extremes(floor):
    """A LAYING of the least RISE and one of the greatest; of the first all FLAT TIES are tied, of the second none."""
    high = own_greatest(floor)
    least = as_rise(floor, {face: -height for face, height in high.items()})
    return (own_laying_of_rise(floor, least, own_flat(floor, least)),
            own_laying_of_rise(floor, as_rise(floor, high), ()))


def squares_in(told):
    return [where for word, where in told if word == "square"]


class Examples(unittest.TestCase):
    def test_examples(self):
        check_transcript(self, EXAMPLES, [errors, squares, rises, module])


class Fewest(unittest.TestCase):
    def test_beside_a_search(self):
        for floor in SMALL:
            for laying in some_layings(floor, 8):
                found = own_distances(floor, laying)
                for other in some_layings(floor, 300):
                    self.assertEqual(fewest(floor, laying, other), found[other])
                    self.assertEqual(fewest(floor, other, laying), found[other])

    def test_by_heights(self):
        for _, floor, laying, other in drawn_pairs(6):
            heights = unlike_heights(floor, laying, other)
            self.assertEqual(fewest(floor, laying, other), sum(map(abs, heights.values())) // 2)
            self.assertEqual(fewest(floor, laying, laying), 0)
            told = shares(floor, laying, other)
            self.assertEqual(told, tuple(sorted((face, more // 2) for face, more in heights.items())))
            self.assertEqual(sum(abs(number) for _, number in told), fewest(floor, laying, other))
            self.assertEqual(shares(floor, other, laying), tuple((face, -number) for face, number in told))

    def test_shares_in_each_plan(self):
        """In a PLAN with the fewest, drawn by a search, the SQUARES at a FACE are as many as its share."""
        ended = 0
        for floor in SMALL:
            draw = random.Random(str(floor))
            for other in some_layings(floor, 4):
                back = own_distances(floor, other)
                laying = start = draw.choice(own_layings(floor))
                told = []
                while laying != other and len(told) < 500:
                    fit = [(deed, own) for deed, own in own_graph(floor)[laying].items()
                           if back[own] == back[laying] - (deed[0] == "square")]
                    deed, laying = draw.choice(fit)
                    told.append(deed)
                at = squares_in(told)
                if laying == other:
                    ended += 1
                    self.assertEqual({(face, at.count(face)) for face in at},
                                     {(face, abs(number)) for face, number in shares(floor, start, other)})
        self.assertGreater(ended, 12)

    def test_first_faces(self):
        for floor in SMALL:
            for other in some_layings(floor, 4):
                back = own_distances(floor, other)
                for laying in some_layings(floor, 25):
                    near, waiting, first = set(), [laying], set()
                    while waiting:
                        at = waiting.pop()
                        if at not in near:
                            near.add(at)
                            for (word, where), own in own_graph(floor)[at].items():
                                if word == "pair":
                                    waiting.append(own)
                                elif back[own] < back[laying]:
                                    first.add(where)
                    self.assertEqual(first_faces(floor, laying, other), tuple(sorted(first)))

    def test_first_faces_by_heights(self):
        for _, floor, laying, other in drawn_pairs(4):
            heights, first = own_heights(floor, laying), []
            for face, more in unlike_heights(floor, laying, other).items():
                beside = {heights[own] for own in own_steps(floor)[face]}
                if beside == {heights[face] + more // abs(more)}:
                    first.append(face)
            self.assertEqual(first_faces(floor, laying, other), tuple(sorted(first)))
            self.assertEqual(first == [], fewest(floor, laying, other) == 0)

    def test_farthest(self):
        for floor in FLOORS:
            self.assertEqual(farthest(floor), sum(own_greatest(floor).values()))
            self.assertEqual(fewest(floor, *extremes(floor)), farthest(list(floor)))
            self.assertLessEqual(farthest(floor), floor[0] * floor[1] * sum(floor))
        for floor in SMALL:
            self.assertEqual(farthest(floor), max(max(own_distances(floor, laying).values())
                                                  for laying in [*some_layings(floor, 3), extremes(floor)[0]]))


class Plans(unittest.TestCase):
    def check_plan(self, floor, laying, other):
        told = plan(floor, laying, other)
        self.assertIsInstance(told, tuple)
        self.assertLessEqual(set(told), set(own_forms(floor)))
        way = own_way(floor, laying, told)
        self.assertEqual((len(way), way[-1]), (len(told) + 1, other))
        self.assertEqual(len(squares_in(told)), fewest(floor, laying, other))
        self.assertIs(is_plan(floor, laying, other, told), True)
        self.assertEqual(many_squares(floor, told), fewest(floor, laying, other))
        self.assertEqual(plan(floor, laying, other), told)
        return told

    def test_of_small_floors(self):
        for floor in SMALL:
            for laying in some_layings(floor, 20):
                for other in some_layings(floor, 20):
                    self.check_plan(floor, laying, other)

    def test_of_drawn_layings(self):
        for _, floor, laying, other in drawn_pairs(4):
            told = self.check_plan(floor, laying, other)
            at = squares_in(told)
            self.assertEqual(tuple(sorted((face, at.count(face)) for face in set(at))),
                             tuple((face, abs(number)) for face, number in shares(floor, laying, other)))

    def test_from_the_least_to_the_greatest(self):
        for floor in FLOORS:
            low, high = extremes(floor)
            self.assertEqual(many_squares(floor, self.check_plan(floor, low, high)), farthest(floor))
            self.check_plan(floor, high, low)

    def test_pairs_alone(self):
        for floor in [(2, 2), (4, 4), (8, 8)]:
            laying = some_laying(floor)
            rise = as_rise(floor, own_heights(floor, laying))
            other = own_laying_of_rise(floor, rise, own_flat(floor, rise))
            told = self.check_plan(floor, laying, other)
            self.assertEqual(sorted(told), [("pair", tie) for tie in own_flat(floor, rise)])
            self.assertEqual(plan(floor, laying, laying), ())

    def test_with_more_pairs(self):
        for draw, floor, laying, other in drawn_pairs(3):
            told = plan(floor, laying, other)
            way = own_way(floor, laying, told)
            for _ in range(4):
                at = draw.randrange(len(told) + 1)
                pairs, _ = drawn_plan(draw, floor, way[at], 6)
                pairs = [deed for deed in pairs[:1] if deed[0] == "pair"]
                more = (*told[:at], *pairs * 2, *told[at:])
                self.assertIs(is_plan(floor, laying, other, more), True)
                if pairs:
                    wrong = (*told[:at], *pairs, *told[at:])
                    fits = len(own_way(floor, laying, wrong)) == len(wrong) + 1
                    self.assertIs(is_plan(floor, laying, other, wrong), fits and own_way(
                        floor, laying, wrong)[-1] == other)

    def test_with_more_or_fewer_squares(self):
        for draw, floor, laying, other in drawn_pairs(3):
            told = plan(floor, laying, other)
            way = own_way(floor, laying, told)
            for at in range(0, len(way), 1 + len(way) // 6):
                around, _ = drawn_plan(draw, floor, way[at], 8)
                there = own_way(floor, way[at], around)
                longer = (*told[:at], *around, *around[::-1], *told[at:])
                self.assertEqual(there[0], way[at])
                self.assertIs(is_plan(floor, laying, other, longer), not squares_in(around))
                self.assertIs(is_plan(floor, laying, other, told[:at]), way[at] == other)
                self.assertIs(is_plan(floor, laying, way[at], told[:at]), True)
                self.assertIs(is_plan(floor, way[at], other, told[at:]), True)

    def test_broken_ones(self):
        for draw, floor, laying, other in drawn_pairs(3):
            told = list(plan(floor, laying, other))
            for _ in range(5):
                draw.shuffle(told)
                way = own_way(floor, laying, told)
                fits = len(way) == len(told) + 1 and way[-1] == other
                self.assertIs(is_plan(floor, laying, other, tuple(told)), fits)

    def test_is_plan_of_any_value(self):
        both = own_way(LONG, LEFT, (FIRST, SECOND))[-1]
        for thing in [*odd_plans(), [], [FIRST, SECOND], (list(FIRST), SECOND), (("square", ["dot", 0, 0]), SECOND),
                      (), (FIRST,), (SECOND, SECOND), (FIRST, PAIR, SECOND), (FIRST, SECOND, PAIR), FIRST + SECOND,
                      (PAIR,) * 3001 + (FIRST, SECOND), (FIRST,) * 3000]:
            self.assertIs(is_plan(LONG, LEFT, both, thing), False)
        for thing in ((FIRST, SECOND), (SECOND, FIRST), (PAIR,) * 3000 + (FIRST, SECOND), (FIRST, SECOND, PAIR, PAIR)):
            self.assertIs(is_plan(thing=thing, other=listed(both), laying=listed(LEFT), floor=[1, 2]), True)

    def test_many_squares(self):
        for floor in FLOORS:
            draw, forms = random.Random(str(floor)), own_forms(floor)
            for many in (0, 1, 7, 300):
                told = tuple(draw.choice(forms) for _ in range(many))
                self.assertEqual(many_squares(floor, told), len(squares_in(told)))
                self.assertEqual(many_squares(plan=listed(told), floor=list(floor)), len(squares_in(told)))
        self.assertEqual(many_squares(LONG, (FIRST,) * 2000), 2000)


class Refusals(unittest.TestCase):
    def test_floors(self):
        odd = [*ODD, (0, 1), (1, 0), (), [], (1, 1, 1), 1]
        for function, more in {
            fewest: [LEFT, LEFT], shares: [LEFT, LEFT], first_faces: [LEFT, LEFT], plan: [LEFT, LEFT],
            is_plan: [LEFT, LEFT, ()], many_squares: [()], farthest: [],
        }.items():
            check_unfit(self, function, [None, *more], 0, odd)

    def test_layings(self):
        for function in (fewest, shares, first_faces, plan):
            check_unfit(self, function, [LONG, None, LEFT], 1, ODD_LAYINGS)
            check_unfit(self, function, [LONG, LEFT, None], 2, ODD_LAYINGS)
        check_unfit(self, is_plan, [LONG, None, LEFT, None], 1, ODD_LAYINGS)
        check_unfit(self, is_plan, [LONG, LEFT, None, None], 2, ODD_LAYINGS)

    def test_plans(self):
        check_unfit(self, many_squares, [LONG, None], 1, odd_plans())


if __name__ == "__main__":
    unittest.main()
