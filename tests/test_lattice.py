"""Rises in a lattice: point [12]."""

import random
import unittest

from teefloors import errors, lattice
from teefloors.lattice import (
    all_rises, can_fall, can_rise, greatest_rise, how_many_rises, is_below, least_rise, lower, lowered, raised,
    steps_to, sum_of, upper,
)
from teefloors.rises import is_rise
from tests.helpers import FLOORS, ODD, caught, check_raises, check_transcript, check_unfit, listed
from tests.own import (
    GREAT, RIM, SMALL, as_heights, as_rise, drawn_rise, each_rise, own_faces, own_greatest, own_how_many_rises,
    own_rises, own_steps,
)
from tests.test_rises import FLAT, HILL, LOW, STEEP, UNFIT_RISES

EXAMPLES = r"""
>>> least_rise((2, 2)), greatest_rise((3, 3)), [steps_to((3, 3), own) for own in (("dot", 1, 1), ("inner", 0, 1), ("dot", 0, 1), ("rim",))]
((((-1, -1), (-1, -1)), ((-2,),)), (((1, 1, 1), (1, 3, 1), (1, 1, 1)), ((2, 2), (2, 2))), [3, 2, 1, 0])
>>> flat, hill, low = (((1, 1), (1, 1)), ((0,),)), (((1, 1), (1, 1)), ((2,),)), (((1, -1), (1, 1)), ((0,),))
>>> can_rise((2, 2), flat), can_fall((2, 2), flat), can_rise((2, 2), low), can_fall((2, 2), hill)
((('inner', 0, 0),), (('dot', 0, 0), ('dot', 0, 1), ('dot', 1, 0), ('dot', 1, 1)), (('dot', 0, 1),), (('inner', 0, 0),))
>>> raised((2, 2), low, ("dot", 0, 1)) == flat, lowered((2, 2), hill, ("inner", 0, 0)) == flat, is_below((2, 2), low, hill), is_below((2, 2), hill, low)
(True, True, True, False)
>>> far = (((-1, 1), (1, 1)), ((0,),))
>>> lower((2, 2), low, far), upper((2, 2), low, far) == flat, [sum_of((2, 2), own) for own in (low, far, flat)]
((((-1, -1), (1, 1)), ((0,),)), True, [2, 2, 4])
>>> all_rises((1, 2)), all_rises((2, 1))[1], len(all_rises((2, 2))), [how_many_rises(own) for own in ((1, 8), (2, 3), (2, 4), (3, 3))]
([(((-1, -1),), ()), (((-1, 1),), ()), (((1, -1),), ()), (((1, 1),), ())], (((-1,), (1,)), ((),)), 18, [256, 82, 374, 868])
>>> raised((2, 2), flat, ("dot", 0, 0))
raises CanNot()
>>> raised((2, 2), flat, ("rim",))
raises CanNot()
>>> steps_to((2, 2), ("dot", 2, 0))
raises NoFace(face=('dot', 2, 0))
"""

FEW_RISES = [(1, n) for n in range(1, 11)] + [(2, 2), (2, 3), (2, 4), (2, 5), (3, 3)]
FEW_RISES += [(n, m) for m, n in FEW_RISES if m != n]


def below(floor, rise, other):
    one, two = as_heights(rise), as_heights(other)
    return all(one[face] <= two[face] for face in own_faces(floor))


def by_both(floor, rise, other, choose):
    one, two = as_heights(rise), as_heights(other)
    return as_rise(floor, {face: choose(one[face], two[face]) for face in own_faces(floor)})


def changed(floor, rise, face, more):
    """What would be the RISE with so much more at this FACE, whether or not it is one."""
    heights = as_heights(rise)
    heights[face] += more
    return as_rise(floor, heights)


def each_pair(drawn=6):
    """All pairs of RISES of small FLOORS, as far as they are few, and drawn ones of greater ones."""
    for floor in SMALL:
        told = own_rises(floor)
        for rise in told[::1 + len(told) // 20]:
            for other in told[::1 + len(told) // 20]:
                yield floor, rise, other
    for floor in GREAT:
        for seed in range(drawn):
            draw = random.Random(seed)
            yield floor, drawn_rise(draw, floor), drawn_rise(draw, floor)


class Examples(unittest.TestCase):
    def test_examples(self):
        check_transcript(self, EXAMPLES, [errors, lattice])


class LeastAndGreatest(unittest.TestCase):
    def test_steps(self):
        for floor in FLOORS:
            heights = own_greatest(floor)
            for face in own_faces(floor):
                self.assertEqual(steps_to(floor, face), heights[face])
            self.assertEqual(steps_to(face=list(RIM), floor=list(floor)), 0)

    def test_both(self):
        for floor in [*FLOORS, (9, 10), (1, 20)]:
            heights = own_greatest(floor)
            self.assertEqual(greatest_rise(floor), as_rise(floor, heights))
            self.assertEqual(least_rise(floor), as_rise(floor, {face: -own for face, own in heights.items()}))
            self.assertTrue(is_rise(floor, greatest_rise(floor)))
            self.assertTrue(is_rise(floor, least_rise(list(floor))))

    def test_each_is_between(self):
        for floor, rise in each_rise(2):
            self.assertIs(is_below(floor, least_rise(floor), rise), True)
            self.assertIs(is_below(floor, rise, greatest_rise(floor)), True)


class Lattice(unittest.TestCase):
    def test_lower_and_upper(self):
        for floor, rise, other in each_pair():
            low, high = lower(floor, rise, other), upper(floor, rise, other)
            self.assertEqual(low, by_both(floor, rise, other, min))
            self.assertEqual(high, by_both(floor, rise, other, max))
            self.assertTrue(is_rise(floor, low) and is_rise(floor, high))
            self.assertEqual(lower(floor, other, rise), low)
            self.assertEqual(sum_of(floor, low) + sum_of(floor, high), sum_of(floor, rise) + sum_of(floor, other))
            self.assertTrue(is_below(floor, low, rise) and is_below(floor, other, high))

    def test_is_below(self):
        for floor, rise, other in each_pair():
            self.assertIs(is_below(floor, rise, other), below(floor, rise, other))
            self.assertIs(is_below(floor, rise, rise), True)

    def test_sums(self):
        for floor, rise in each_rise(2):
            self.assertEqual(sum_of(floor, rise), sum(as_heights(rise).values()))
        self.assertEqual(sum_of((3, 3), greatest_rise((3, 3))), 19)

    def test_on_the_way_up(self):
        """A RISE below another one comes to it by as many FACES raised as half of the differences."""
        for floor, rise, other in each_pair(2):
            if below(floor, rise, other):
                many = (sum_of(floor, other) - sum_of(floor, rise)) // 2
                for _ in range(many):
                    onward = [raised(floor, rise, face) for face in can_rise(floor, rise)]
                    rise = [own for own in onward if below(floor, own, other)][0]
                self.assertEqual(rise, other)


class Moves(unittest.TestCase):
    def test_can_rise_and_can_fall(self):
        for floor, rise in each_rise(2):
            heights, steps = as_heights(rise), own_steps(floor)
            up, down = [], []
            for face in own_faces(floor):
                beside = {heights[other] - heights[face] for other in steps[face]}
                if face != RIM and beside == {1}:
                    up.append(face)
                if face != RIM and beside == {-1}:
                    down.append(face)
            self.assertEqual(can_rise(floor, rise), tuple(up))
            self.assertEqual(can_fall(floor, rise), tuple(down))

    def test_by_what_is_a_rise(self):
        for floor in SMALL:
            told = set(own_rises(floor))
            for rise in own_rises(floor):
                faces = [face for face in own_faces(floor) if face != RIM]
                for function, more in ((can_rise, 2), (can_fall, -2)):
                    fit = tuple(face for face in faces if changed(floor, rise, face, more) in told)
                    self.assertEqual(function(floor, rise), fit)

    def test_there_and_back(self):
        for floor, rise in each_rise(2):
            up, down = can_rise(floor, rise), can_fall(floor, rise)
            for face in own_faces(floor):
                if face in up:
                    more = raised(floor, rise, face)
                    self.assertEqual(more, changed(floor, rise, face, 2))
                    self.assertEqual(lowered(floor, more, face), rise)
                else:
                    check_raises(self, "CanNot()", raised, floor, rise, face)
                if face in down:
                    less = lowered(floor, rise, face)
                    self.assertEqual(less, changed(floor, rise, face, -2))
                    self.assertEqual(raised(floor, less, face), rise)
                else:
                    check_raises(self, "CanNot()", lowered, floor, rise, face)

    def test_the_rim_stays(self):
        # Of one DOT the RIM's neighbours are all beyond it by 1, one way or the other.
        for dot in (1, -1):
            for function in (raised, lowered):
                check_raises(self, "CanNot()", function, (1, 1), (((dot,),), ()), RIM)
                check_raises(self, "CanNot()", function, [1, 1], [[[dot]], []], ["rim"])

    def test_by_name_and_with_lists(self):
        self.assertEqual(raised(face=["dot", 0, 1], rise=listed(LOW), floor=[2, 2]), FLAT)
        self.assertEqual(lower(other=listed(HILL), rise=listed(LOW), floor=[2, 2]), LOW)
        self.assertEqual(can_fall(rise=listed(HILL), floor=[2, 2]), (("inner", 0, 0),))


class AllRises(unittest.TestCase):
    def test_beside_the_own(self):
        for floor in FEW_RISES:
            found = all_rises(floor)
            self.assertIsInstance(found, list)
            self.assertEqual(found, own_rises(floor))
            self.assertLessEqual(len(found), 2000)
            self.assertEqual(how_many_rises(floor), len(found))

    def test_too_many(self):
        for floor in [*FLOORS, (1, 11), (11, 1), (1, 20), (9, 9), (100, 100)]:
            if floor not in FEW_RISES:
                check_raises(self, "TooMany()", all_rises, floor)
                check_raises(self, "TooMany()", all_rises, floor=list(floor))

    def test_how_many(self):
        for floor in FLOORS:
            if min(floor) > 4:
                check_raises(self, "TooMany()", how_many_rises, floor)
                continue
            many = how_many_rises(floor)
            self.assertEqual(many, own_how_many_rises(floor))
            self.assertEqual(how_many_rises(list(floor[::-1])), many)
            # TooMany() of the list is for just those with more than 2,000.
            self.assertEqual(caught(all_rises, floor) is not None, many > 2000)
        self.assertEqual(how_many_rises((1, 8)), 256)
        check_raises(self, "TooMany()", how_many_rises, [5, 5])
        check_raises(self, "TooMany()", how_many_rises, (5, 9))
        self.assertEqual(how_many_rises((1, 11)), 2048)


class Refusals(unittest.TestCase):
    def test_floors(self):
        odd = [*ODD, (0, 1), (1, 0), (), [], (1, 1, 1), 1]
        for function, more in {
            least_rise: [], greatest_rise: [], all_rises: [], how_many_rises: [], steps_to: [("dot", 9, 9)],
            lower: [FLAT, FLAT], upper: [FLAT, FLAT], is_below: [FLAT, FLAT], can_rise: [FLAT], can_fall: [FLAT],
            raised: [FLAT, ("dot", 9, 9)], lowered: [FLAT, ("dot", 9, 9)], sum_of: [FLAT],
        }.items():
            check_unfit(self, function, [None, *more], 0, odd)

    def test_rises(self):
        for function, more in {
            lower: [FLAT], upper: [FLAT], is_below: [FLAT], can_rise: [], can_fall: [], sum_of: [],
            raised: [("dot", 9, 9)], lowered: [("dot", 9, 9)],
        }.items():
            check_unfit(self, function, [(2, 2), None, *more], 1, UNFIT_RISES)
        for function in (lower, upper, is_below):
            check_unfit(self, function, [(2, 2), FLAT, None], 2, UNFIT_RISES)
            check_raises(self, "Unfit()", function, (1, 2), STEEP, FLAT)

    def test_faces(self):
        odd = [value for value in ODD if value not in (["rim"],)]
        odd = [*odd, (), [], 0, "rim", ("inner", 0), ("Dot", 0, 0)]
        for function, ahead in {steps_to: [], raised: [FLAT], lowered: [FLAT]}.items():
            check_unfit(self, function, [(2, 2), *ahead, None], 1 + len(ahead), odd)
            for face in (("inner", 1, 0), ("inner", 0, -1), ("dot", 2, 0), ("dot", 0, 2), ("dot", -1, 0)):
                check_raises(self, f"NoFace(face={face})", function, (2, 2), *ahead, face)
                check_raises(self, f"NoFace(face={face})", function, [2, 2], *listed(ahead), list(face))


if __name__ == "__main__":
    unittest.main()
