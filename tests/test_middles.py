"""In the middle: point [22]."""

import itertools
import random
import unittest

from teefloors import errors, middles as module, rises
from teefloors.layings import some_laying
from teefloors.middles import is_between, is_middle, kept_by_all, middle, middle_rise, rises_between, sum_to
from tests.helpers import FLOORS, ODD, check_raises, check_transcript, check_unfit, listed
from tests.own import (
    GREAT, SMALL, as_heights, as_rise, drawn_laying, own_faces, own_flat, own_greatest, own_heights,
    own_laying_of_rise, own_layings, own_lot, own_rises,
)
from tests.own_told import heights_of_laying
from tests.test_fewest import extremes
from tests.test_squares import LEFT, LONG, ODD_LAYINGS

EXAMPLES = r"""
>>> flat, hill, low, far = (((1, 1), (1, 1)), ((0,),)), (((1, 1), (1, 1)), ((2,),)), (((1, -1), (1, 1)), ((0,),)), (((-1, 1), (1, 1)), ((0,),))
>>> one, two, three = [laying_of_rise((2, 2), own, ()) for own in (hill, low, far)]
>>> mid = middle((2, 2), (one, two, three))
>>> middle_rise((2, 2), (one, two, three)) == flat, mid == laying_of_rise((2, 2), flat, ()), is_middle((2, 2), (three, one, two), mid), is_middle((2, 2), (one,), mid)
(True, True, True, False)
>>> [sum_to((2, 2), own, (one, two, three)) for own in (mid, one, two, three)], kept_by_all((2, 2), (one, two, three))
([3, 4, 4, 4], ((5, 0, 1), (6, 7, 3), (7, 1, 2), (7, 5, 2)))
>>> is_between((2, 2), one, two, mid), is_between((2, 2), one, two, three), is_between((2, 2), one, two, list(mid)), rises_between((2, 2), one, two) == [low, flat, hill]
(True, False, False, True)
>>> tie = ((0, 0), (1, 0))
>>> some = tuple([laying_of_rise((2, 2), flat, own) for own in ((tie,), (), (tie,))])
>>> book_of((2, 2), middle((2, 2), some)), rises_between((2, 2), some[0], some[1]) == [flat]
((((0, 0), (1, 0)),), True)
>>> middle((2, 2), (one, two))
raises Unfit()
"""

# Some things of which none is a tuple of oddly many LAYINGS of LONG.
UNFIT_LAYINGS = [
    *ODD, (), [], 0, LEFT, (LEFT, LEFT), (LEFT,) * 8, (LEFT, LEFT, None), (LEFT, LEFT[1:], LEFT), (some_laying((2, 1)),),
    (LEFT, some_laying((1, 1)), LEFT), (LEFT[::-1],), ((LEFT,),), ("abc",), "abc", (LEFT[:7],), ((),), (LEFT, LEFT, ()),
]


def apart(floor, laying, other):
    """The fewest SQUARES from one to the other: half of what their heights differ."""
    one, two = heights_of_laying(floor, laying), heights_of_laying(floor, other)
    return sum(abs(one[face] - two[face]) for face in own_faces(floor)) // 2


def own_middle_heights(floor, layings):
    heights = [heights_of_laying(floor, laying) for laying in layings]
    return {face: sorted(own[face] for own in heights)[len(layings) // 2] for face in own_faces(floor)}


def own_middle_one(floor, layings):
    rise = as_rise(floor, own_middle_heights(floor, layings))
    lots = [own_lot(laying) for laying in layings]
    book = [tie for tie in own_flat(floor, rise) if sum(tie in lot for lot in lots) > len(layings) // 2]
    return own_laying_of_rise(floor, rise, book)


def each_oddly_many(many):
    """Oddly many LAYINGS, 1 to 9, equal ones among them, of small FLOORS and of greater ones."""
    for floor in [*SMALL, *GREAT]:
        for seed in range(many if floor in SMALL else 3):
            draw = random.Random(f"{floor} {seed} odd")
            some = [drawn_laying(draw, floor) if floor in GREAT else draw.choice(own_layings(floor))
                    for _ in range(draw.choice((1, 3, 5, 9)))]
            while len(some) < 9 and draw.random() < 0.4:
                some.extend([draw.choice(some)] * 2)
            yield floor, tuple(draw.sample(some, len(some)))


class Examples(unittest.TestCase):
    def test_examples(self):
        check_transcript(self, EXAMPLES, [errors, rises, module])


class Middles(unittest.TestCase):
    def test_middle(self):
        for floor, layings in each_oddly_many(24):
            rise = as_rise(floor, own_middle_heights(floor, layings))
            self.assertEqual(middle_rise(floor, layings), rise)
            one = middle(floor, layings)
            self.assertEqual(one, own_middle_one(floor, layings))
            self.assertIs(is_middle(floor, layings, one), True)
            turned = layings[1:] + layings[:1]
            for other in (turned, listed(layings[::-1])):
                self.assertEqual(middle_rise(floor, other), rise)
                self.assertEqual(middle(floor, other), one)
                self.assertIs(is_middle(floor, other, one), True)
                self.assertEqual(kept_by_all(floor, other), kept_by_all(floor, layings))

    def test_is_middle(self):
        for floor, layings in each_oddly_many(12):
            one = own_middle_one(floor, layings)
            things = own_layings(floor)[:25] if floor in SMALL else layings
            for thing in [*things, some_laying(floor)]:
                self.assertIs(is_middle(floor, layings, thing), thing == one)
            x, y, way = one[0]
            like = [(x, y, bool(way)) if way < 2 else (bool(x), y, way) if x < 2 else (float(x), y, way), *one[1:]]
            for thing in (list(one), listed(one), one[1:], one[::-1], None, (), (*one, one[0]), (one,), tuple(like)):
                self.assertIs(is_middle(floor, layings, thing), False)

    def test_most_have_one_rise(self):
        for floor in SMALL:
            draw = random.Random(str(floor))
            for _ in range(10):
                laying = draw.choice(own_layings(floor))
                rise = as_rise(floor, heights_of_laying(floor, laying))
                like = [own for own in own_layings(floor) if as_rise(floor, heights_of_laying(floor, own)) == rise]
                some = [draw.choice(like) for _ in range(5)] + [draw.choice(own_layings(floor)) for _ in range(4)]
                draw.shuffle(some)
                self.assertEqual(middle_rise(floor, some), rise)
                self.assertEqual(middle(floor, [laying] * 5 + some[:4]), laying)

    def test_kept_by_all(self):
        for floor, layings in each_oddly_many(40):
            kept = set(layings[0]).intersection(*layings)
            self.assertEqual(kept_by_all(floor, layings), tuple(sorted(kept)))
            self.assertLessEqual(kept, set(middle(floor, layings)))

    def test_sum_to(self):
        for floor, layings in each_oddly_many(12):
            some = own_layings(floor) if floor in SMALL else [*layings, some_laying(floor)]
            sums = {}
            for laying in some[::1 + len(some) // 30]:
                sums[laying] = sum(apart(floor, laying, own) for own in layings)
                self.assertEqual(sum_to(floor, laying, layings), sums[laying])
            one = own_middle_one(floor, layings)
            rise, least = as_rise(floor, heights_of_laying(floor, one)), sum_to(floor, one, layings)
            for laying, many in sums.items():
                like = as_rise(floor, heights_of_laying(floor, laying)) == rise
                self.assertTrue(many == least if like else many > least)
        self.assertEqual(sum_to(layings=[listed(LEFT)], laying=listed(LEFT), floor=[1, 2]), 0)


class Between(unittest.TestCase):
    def pairs(self, many):
        for floor in SMALL:
            draw = random.Random(str(floor))
            for _ in range(many):
                yield floor, draw.choice(own_layings(floor)), draw.choice(own_layings(floor))

    def test_is_between(self):
        for floor, laying, other in self.pairs(6):
            some = own_layings(floor)
            for thing in some[::1 + len(some) // 100]:
                there = apart(floor, laying, thing) + apart(floor, thing, other) == apart(floor, laying, other)
                self.assertIs(is_between(floor, laying, other, thing), there)
                self.assertIs(is_between(floor, other, laying, thing), there)
            for thing in (laying, other):
                self.assertIs(is_between(floor, laying, other, thing), True)
                self.assertIs(is_between(floor, laying, other, list(thing)), False)
        for thing in [*ODD_LAYINGS, listed(LEFT), list(LEFT), (LEFT,)]:
            self.assertIs(is_between(LONG, LEFT, LEFT, thing), False)
        self.assertIs(is_between(thing=LEFT, other=listed(LEFT), laying=listed(LEFT), floor=[1, 2]), True)

    def test_rises_between(self):
        for floor, laying, other in self.pairs(12):
            one, two = heights_of_laying(floor, laying), heights_of_laying(floor, other)
            told = []
            for rise in own_rises(floor):
                heights = as_heights(rise)
                if all(min(one[own], two[own]) <= heights[own] <= max(one[own], two[own]) for own in own_faces(floor)):
                    told.append(rise)
            found = rises_between(floor, laying, other)
            self.assertIsInstance(found, list)
            self.assertEqual(found, told)
            self.assertEqual(rises_between(list(floor), listed(other), listed(laying)), told)

    def test_from_the_least_to_the_greatest(self):
        for floor in [*SMALL, (3, 3), (2, 4), (1, 10)]:
            self.assertEqual(rises_between(floor, *extremes(floor)), own_rises(floor))

    def test_three(self):
        """Of three the middle one is between each two, and its RISE is the only such one."""
        for floor in SMALL:
            draw = random.Random(str(floor))
            for _ in range(8):
                three = [draw.choice(own_layings(floor)) for _ in range(3)]
                one = middle(floor, three)
                shared = None
                for laying, other in itertools.combinations(three, 2):
                    self.assertIs(is_between(floor, laying, other, one), True)
                    found = set(rises_between(floor, laying, other))
                    shared = found if shared is None else shared & found
                self.assertEqual(shared, {middle_rise(floor, three)})

    def test_too_many(self):
        for floor in FLOORS:
            low, high = extremes(floor)
            if floor[0] * floor[1] > 10:
                check_raises(self, "TooMany()", rises_between, list(floor), listed(high), listed(low))
                self.assertEqual(rises_between(floor, low, low), [as_rise(floor, own_heights(floor, low))])

    def test_just_2000(self):
        """Places far apart, each by itself in 2, 3 or 5 RISES: in all just 2,000, or some more."""
        for sizes, many in ((5, 5, 5, 2, 2, 2, 2), 2000), ((3, 3, 3, 3, 5, 5), None), ((2,) * 10, 1024), ((2,) * 11, None):
            low = {face: 1 if face[0] == "dot" else 0 for face in own_faces((8, 8))}
            high = dict(low)
            for at, size in enumerate(sizes):
                i, j = 2 * (at // 4), 2 * (at % 4)
                # The DOTS that are down come up, then, or without the other ones, the INNER FACE over both.
                low.update({("dot", i + own, j): -1 for own in range({2: 1, 3: 1, 5: 2}[size])})
                if size > 2:
                    high["inner", i, j] = 2
            one, two = [own_laying_of_rise((8, 8), as_rise((8, 8), heights), ()) for heights in (low, high)]
            if many is None:
                check_raises(self, "TooMany()", rises_between, (8, 8), one, two)
            else:
                found = rises_between((8, 8), two, one)
                self.assertEqual((len(found), found, len(set(found))), (many, sorted(found), many))


    def test_2000_and_2001(self):
        """From a LAYING of the least RISE to one of these there are 2,000, and one more."""
        floor, low = (2, 7), extremes((2, 7))[0]
        for dots, inners, many in (
            (((-1, -1, 1, 1, 1, -1, 1), (-1, -1, 1, 1, 1, 1, 1)), ((0, 0, 0, 0, 0, 0),), 2000),
            (((1, 1, -1, -1, -1, 1, -1), (1, 1, -1, 1, 1, 1, 1)), ((2, 0, 0, 0, 0, 0),), None),
        ):
            other = own_laying_of_rise(floor, (dots, inners), ())
            if many is None:
                check_raises(self, "TooMany()", rises_between, floor, low, other)
            else:
                self.assertEqual(len(rises_between(floor, low, other)), many)


class Refusals(unittest.TestCase):
    def test_floors(self):
        odd = [*ODD, (0, 1), (1, 0), (), [], (1, 1, 1), 1, (2, 1)]
        for function, more in {
            middle_rise: [(LEFT,)], middle: [(LEFT,)], is_middle: [(LEFT,), LEFT], kept_by_all: [(LEFT,)],
            sum_to: [LEFT, (LEFT,)], is_between: [LEFT, LEFT, LEFT], rises_between: [LEFT, LEFT],
        }.items():
            check_unfit(self, function, [None, *more], 0, odd)

    def test_layings(self):
        for function, more in {sum_to: [(LEFT,)], is_between: [LEFT, None], rises_between: [LEFT]}.items():
            check_unfit(self, function, [LONG, None, *more], 1, ODD_LAYINGS)
        for function, more in {is_between: [None], rises_between: []}.items():
            check_unfit(self, function, [LONG, LEFT, None, *more], 2, ODD_LAYINGS)

    def test_tuples_of_layings(self):
        for function, more in {middle_rise: [], middle: [], is_middle: [None], kept_by_all: []}.items():
            check_unfit(self, function, [LONG, None, *more], 1, UNFIT_LAYINGS)
        check_unfit(self, sum_to, [LONG, LEFT, None], 2, UNFIT_LAYINGS)

    def test_ahead_of_too_many(self):
        low, high = extremes((8, 8))
        check_raises(self, "Unfit()", rises_between, (8, 8), low, high[1:])
        self.assertEqual(middle((8, 8), [low] * 9), low)
        self.assertEqual(middle_rise((8, 8), (low, high, high)), as_rise((8, 8), own_greatest((8, 8))))


if __name__ == "__main__":
    unittest.main()
