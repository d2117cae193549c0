"""One judge: point [24]."""

import random
import unittest

from teefloors import errors, judge as module
from teefloors.counts import many_layings
from teefloors.fewest import plan
from teefloors.judge import first_fallen, is_demand, is_paper_against, is_reason_for, is_so, paper_against, reason_for
from teefloors.layings import some_laying
from tests.helpers import ODD, check_raises, check_transcript, check_unfit, deep, listed
from tests.own import GREAT, SMALL, drawn_laying, own_blocks, own_layings, own_rounds, own_ties
from tests.own_deeds import own_way
from tests.own_demands import (
    apart, bent, drawn_demands, great_demands, own_is_demand, own_is_paper, own_is_reason, own_is_reason_against,
    own_is_so, with_one_more,
)
from tests.own_told import each_drawn_told, is_own_laying, own_having
from tests.test_told import own_pieces

EXAMPLES = r"""
>>> right, left = ((0, 1, 0), (1, 3, 3), (2, 0, 1), (3, 2, 2)), ((0, 2, 0), (1, 0, 1), (2, 3, 3), (3, 1, 2))
>>> bad = ("finish", (1, 1), (left[0], right[1]))
>>> is_so(("finish", (1, 1), left[:1])), is_so(bad), is_paper_against(bad, ("ring", (("dot", 0, 0), ("rim",), ("dot", 0, 0))))
(True, False, True)
>>> is_so(("fewest", (1, 1), left, right, 1)), paper_against(("fewest", (1, 1), left, right, 0)), is_reason_for(("fewest", (1, 1), left, right, 1), (("square", ("dot", 0, 0)),))
(True, (((-2,),), ()), True)
>>> is_so(("sure", (1, 1), left[:1], left[1])), paper_against(("sure", (1, 1), (), left[1])) == right
(True, True)
>>> is_so(("many", (1, 1), (), 2)), paper_against(("many", (1, 1), (), 1)) == (right, left)
(True, True)
>>> tied = (((0, 0), (1, 0)),)
>>> is_so(("rounds", (2, 1), tied, 1)), is_so(("rounds", (2, 1), (), 1)), reason_for(("rounds", (2, 1), (), 2)), is_paper_against(("rounds", (2, 1), (), 1), ((1, 1), (3, 0)))
(True, False, ((0, 0), (2, 0)), True)
>>> is_demand(("sure", (1, 1), bad[2], left[1])), first_fallen((("many", (1, 1), (), 2), bad))
(False, 1)
"""

RIGHT = ((0, 1, 0), (1, 3, 3), (2, 0, 1), (3, 2, 2))
LEFT = ((0, 2, 0), (1, 0, 1), (2, 3, 3), (3, 1, 2))
TIED = (((0, 0), (1, 0)),)
GOOD = ("many", (1, 1), (), 2)
FALLEN = ("finish", (1, 1), (RIGHT[0], (1, 0, 1)))
JUDGES = [is_so, paper_against, reason_for]
# A DEMAND of each kind, with more than 2,000 LAYINGS for "many" in the last two.
TOO_MANY = [("many", (8, 8), (), 5), ("many", (3, 3), (), 5), ("many", (8, 9), some_laying((8, 9)), 5),
            ("many", (1, 8), (), 10 ** 6), ("many", (8, 1), (), 0)]


def shuffled(seed, things, many):
    """Some of these things, drawn."""
    things = list(things)
    return random.Random(seed).sample(things, min(many, len(things)))


class Examples(unittest.TestCase):
    def test_examples(self):
        check_transcript(self, EXAMPLES, [errors, module])


class Demands(unittest.TestCase):
    def test_told_ones(self):
        for demand in drawn_demands(12):
            self.assertIs(own_is_demand(demand), True)
            self.assertIs(is_demand(demand), True)
            self.assertIs(is_demand(listed(demand)), False)
            self.assertIs(is_demand(list(demand)), False)

    def test_bent_ones(self):
        seen = {True: 0, False: 0}
        for demand in shuffled(1, drawn_demands(12), 250):
            for thing in shuffled(str(demand), bent(demand), 60):
                told = own_is_demand(thing)
                if told is not None:
                    seen[told] += 1
                    self.assertIs(is_demand(thing), told, thing)
        self.assertGreater(min(seen.values()), 200)

    def test_of_any_value(self):
        for thing in [*ODD, (), [], ("many",), ("finish", (1, 1)), ("many", (1, 1), ()), ("many", (1, 1), (), -1),
                      ("many", (1, 1), (), True), ("many", (1, 1), None, 1), (None, (1, 1), ()), ("finish", (0, 1), ()),
                      ([], (1, 1), ()), ({}, (1, 1), ()), ("Finish", (1, 1), ()), ("finish", None, ()), "finish",
                      ("finish", (1, 1), (), ()), ("sure", (1, 1), (), (0, 1, 1)), ("sure", (1, 1), (), (4, 1, 0)),
                      ("sure", (1, 1), FALLEN[2], RIGHT[0]), ("rounds", (2, 1), (TIED,), 1), ("rounds", (1, 1), TIED, 1),
                      ("fewest", (1, 1), LEFT, RIGHT), ("fewest", (1, 2), LEFT, RIGHT, 1), ("finish", (1, 1), deep(16)),
                      ("finish", deep(17), ()), (deep(18), (1, 1), ()), ("rounds", (2, 1), deep(16), 1)]:
            self.assertIs(is_demand(thing), False)
        for thing in (GOOD, FALLEN, ("many", (8, 8), (), 0), ("many", (100, 100), (), 10 ** 40),
                      ("fewest", (1, 1), LEFT, RIGHT, 10 ** 40), ("rounds", (40, 50), (), 7),
                      ("sure", (1, 1), (), (0, 1, 0))):
            self.assertIs(is_demand(thing=thing), True)

    def test_of_great_floors(self):
        for floor in GREAT:
            for demand, _ in great_demands(floor):
                self.assertIs(is_demand(demand), True)


class Judged(unittest.TestCase):
    def check(self, demand):
        stands = own_is_so(demand)
        self.assertIs(is_so(demand), stands)
        self.assertIs(is_so(listed(demand)), stands)
        paper, reason = paper_against(demand), reason_for(demand)
        self.assertEqual((paper is None, reason is None), (stands, not stands))
        self.assertEqual((paper_against(listed(demand)), reason_for(listed(demand))), (paper, reason))
        told, other = (reason, is_paper_against) if stands else (paper, is_reason_for)
        self.assertTrue((own_is_reason if stands else own_is_paper)(demand, told), demand)
        self.assertIs((is_reason_for if stands else is_paper_against)(demand, told), True)
        self.assertIs(other(demand, told), False)
        return told

    def test_beside_all_layings(self):
        seen = {}
        for demand in drawn_demands(12):
            told = self.check(demand)
            key = demand[0], own_is_so(demand)
            seen[key] = seen.get(key, 0) + 1
            fits = is_reason_for if own_is_so(demand) else is_paper_against
            self.assertIs(fits(listed(demand), told), True)
            self.assertIs(fits(demand, list(told)), False)
            self.assertIs(fits(demand, listed(told)), False)
        self.assertEqual(len(seen), 10)
        self.assertGreater(min(seen.values()), 20)

    def test_bent_papers_and_reasons(self):
        seen = {}
        for demand in shuffled(2, drawn_demands(18, 30), 500):
            stands = own_is_so(demand)
            told = reason_for(demand) if stands else paper_against(demand)
            for thing in shuffled(str(demand), bent(told), 25):
                paper, reason = own_is_paper(demand, thing), own_is_reason(demand, thing)
                self.assertIs(is_paper_against(demand, thing), paper, (demand, thing))
                self.assertIs(is_reason_for(demand, thing), reason, (demand, thing))
                seen[paper or reason] = seen.get(paper or reason, 0) + 1
        self.assertGreater(seen[True], 20)

    def test_other_papers_and_reasons(self):
        """What is told of one DEMAND, handed in for others."""
        demands = shuffled(3, drawn_demands(12, 30), 120)
        told = [paper_against(own) if not own_is_so(own) else reason_for(own) for own in demands]
        for at, demand in enumerate(demands):
            for thing in told[at::11] + told[:at:13]:
                self.assertIs(is_paper_against(demand, thing), own_is_paper(demand, thing))
                self.assertIs(is_reason_for(demand, thing), own_is_reason(demand, thing))

    def test_of_any_value(self):
        for demand in [GOOD, FALLEN, ("many", (1, 1), (), 1), ("finish", (1, 1), ()), ("rounds", (2, 1), (), 1),
                       ("fewest", (1, 1), LEFT, RIGHT, 0), ("fewest", (1, 1), LEFT, RIGHT, 1), ("rounds", (2, 1), (), 2),
                       ("sure", (1, 1), (), LEFT[0]), ("sure", (1, 1), LEFT[:1], LEFT[0])]:
            for thing in [*ODD, [], (None, None), ("ring", deep(17)), ("tie", deep(17)), (deep(18),), (deep(18),) * 2]:
                self.assertIs(is_paper_against(demand, thing), False)
                self.assertIs(is_reason_for(demand, thing), False)

    def test_of_true_and_false(self):
        """True and False are no numbers, though they equal 1 and 0."""
        apart_by_none = ("fewest", (2, 1), *[drawn_laying(random.Random(1), (2, 1))] * 2, 0)
        self.assertIs(is_reason_for(apart_by_none, ()), True)
        lot = ("rounds", (2, 1), (), 1)
        self.assertIs(is_paper_against(lot, ((0, 0), (2, 0))), True)
        self.assertIs(is_paper_against(lot, ((0, False), (2, 0))), False)
        self.assertIs(is_reason_for(("rounds", (2, 1), (), 2), ((False, 0), (2, 0))), False)
        small, tall = ("fewest", (1, 2), *own_layings((1, 2))[::5], 0), ("fewest", (1, 1), LEFT, RIGHT, 0)
        self.assertIs(is_paper_against(tall, (((-2,),), ())), True)
        for demand in (small, tall):
            for thing in bent(paper_against(demand)):
                self.assertIs(is_paper_against(demand, thing), own_is_paper(demand, thing))
        right = tuple((*own[:2], bool(own[2])) if own[2] < 2 else own for own in RIGHT)
        self.assertEqual(right, RIGHT)
        self.assertIs(is_reason_for(("finish", (1, 1), ()), right), False)
        self.assertIs(is_paper_against(("sure", (1, 1), (), LEFT[1]), right), False)
        self.assertIs(is_reason_for(GOOD, (right, LEFT)), False)
        self.assertIs(is_reason_for(GOOD, (RIGHT, LEFT)), True)


class EachKind(unittest.TestCase):
    def test_finish(self):
        for floor, told in each_drawn_told(12):
            having = own_having(floor, told)
            for laying in own_layings(floor)[::1 + len(own_layings(floor)) // 30]:
                self.assertIs(is_reason_for(("finish", floor, told), laying), laying in having)

    def test_fewest_with_more_pairs(self):
        for floor in SMALL:
            draw = random.Random(str(floor))
            laying, other = draw.choice(own_layings(floor)), draw.choice(own_layings(floor))
            far, way = apart(floor, laying, other), plan(floor, laying, other)
            back = plan(floor, other, laying)
            there = way + back + way
            self.assertEqual(own_way(floor, laying, there)[-1], other)
            for number in (3 * far - 1, 3 * far, 3 * far + 1):
                if number >= far:
                    demand = ("fewest", floor, laying, other, number)
                    self.assertIs(is_reason_for(demand, there), number >= 3 * far)
                    self.assertIs(is_reason_for(demand, way), True)
                    self.assertIs(is_reason_for(demand, way + back), laying == other and 2 * far <= number)

    def test_sure(self):
        for floor, told in each_drawn_told(18):
            having = own_having(floor, told)
            if having:
                for piece in shuffled(str(told), own_pieces(floor), 6):
                    demand = ("sure", floor, told, piece)
                    self.assertIs(is_so(demand), all(piece in own for own in having))
                    for laying in own_layings(floor)[::1 + len(own_layings(floor)) // 12]:
                        self.assertIs(is_paper_against(demand, laying), laying in having and piece not in laying)

    def test_many(self):
        for floor, told in each_drawn_told(12):
            having = own_having(floor, told)
            if 0 < len(having) < 60:
                for number in range(len(having)):
                    demand, draw = ("many", floor, told, number), random.Random(number)
                    some = tuple(sorted(draw.sample(having, number + 1)))
                    self.assertIs(is_paper_against(demand, some), True)
                    self.assertIs(is_paper_against(demand, some[1:]), False)
                    self.assertIs(is_paper_against(demand, (*some[1:], some[0])), len(some) == 1)
                self.assertIs(is_reason_for(("many", floor, told, len(having)), tuple(having)), True)
                self.assertIs(is_reason_for(("many", floor, told, len(having)), tuple(having[1:])), False)
                self.assertIs(is_reason_for(("many", floor, told, len(having) - 1), tuple(having)), False)
            elif not having:
                self.assertEqual((is_so(("many", floor, told, 0)), reason_for(("many", floor, told, 0))), (True, ()))

    def test_rounds(self):
        for floor in SMALL:
            draw = random.Random(str(floor))
            lot = tuple(tie for tie in own_ties(floor) if draw.random() < 0.4)
            found = own_rounds(floor, lot)
            for number in range(len(found)):
                some = tuple(sorted(draw.choice(own) for own in draw.sample(found, number + 1)))
                self.assertIs(is_paper_against(("rounds", floor, lot, number), some), True)
                self.assertIs(is_paper_against(("rounds", floor, lot, number + 1), some), False)
                other = draw.choice(own_blocks(floor))
                more = tuple(sorted({*some, other}))
                unlike = len({at for at, own in enumerate(found) if set(own) & set(more)}) == len(more) == number + 2
                self.assertIs(is_paper_against(("rounds", floor, lot, number + 1), more),
                              unlike and len(found) > number + 1)


class GreatFloors(unittest.TestCase):
    def test_where_nothing_is_counted(self):
        for floor in [*GREAT, (8, 7)]:
            for demand, stands in great_demands(floor):
                self.assertIs(is_so(demand), stands)
                paper, reason = paper_against(demand), reason_for(demand)
                self.assertIs(is_paper_against(demand, paper), not stands)
                self.assertIs(is_reason_for(demand, reason), stands)
                self.assertEqual((paper is None, reason is None), (stands, not stands))
                if demand[0] == "finish":
                    told = demand[2]
                    self.assertTrue(is_own_laying(floor, reason) and set(told) <= set(reason) if stands else
                                    own_is_reason_against(floor, told, paper))
                if demand[0] == "fewest" and stands:
                    self.assertEqual(own_way(floor, demand[2], reason)[-1], demand[3])

    def test_many(self):
        for floor in ((8, 7), (7, 8), (5, 4), (1, 8), (8, 2)):
            draw = random.Random(str(floor))
            laying = drawn_laying(draw, floor)
            told = laying
            while many_layings(floor, told) < 40:
                less = tuple(own for own in told if draw.random() < 0.9)
                if many_layings(floor, less) > 2000:
                    break
                told = less
            many = many_layings(floor, told)
            demand = ("many", floor, told, many)
            self.assertIs(is_so(demand), True)
            reason = reason_for(demand)
            self.assertEqual((len(reason), len(set(reason)), list(reason)), (many, many, sorted(reason)))
            self.assertIn(laying, reason)
            for own in reason:
                self.assertLessEqual(set(told), set(own))
                self.assertTrue(is_own_laying(floor, own))
            self.assertIs(is_reason_for(demand, reason), True)
            less = (*demand[:3], many - 1)
            self.assertIs(is_so(less), False)
            self.assertEqual(paper_against(less), reason)
            self.assertIs(is_paper_against(less, reason), True)
            self.assertEqual(len(paper_against((*demand[:3], 0))), 1)


class TooMany(unittest.TestCase):
    def test_many(self):
        for demand in TOO_MANY:
            self.assertIs(is_demand(demand), True)
            for function in JUDGES:
                check_raises(self, "TooMany()", function, demand)
                check_raises(self, "TooMany()", function, listed(demand))
            for thing in [*ODD, (), ((),), RIGHT]:
                for function in (is_paper_against, is_reason_for):
                    check_raises(self, "TooMany()", function, demand, thing)
            check_raises(self, "TooMany()", first_fallen, (GOOD, demand, FALLEN))
            self.assertEqual(first_fallen((GOOD, FALLEN, demand)), 1)

    def test_2000_and_2001(self):
        told = ((1, 8, 2), (3, 5, 2), (5, 0, 1), (6, 11, 3), (7, 9, 2), (8, 5, 0), (9, 7, 2), (10, 0, 1), (10, 4, 0),
                (11, 6, 2))
        demand = ("many", (3, 4), told, 2000)
        self.assertEqual(many_layings((3, 4), told), 2000)
        reason = reason_for(demand)
        self.assertEqual((len(reason), reason), (2000, tuple(sorted(set(reason)))))
        self.assertIs(is_reason_for(demand, reason), True)
        self.assertEqual(paper_against((*demand[:3], 1999)), reason)
        for floor, told in (((3, 3), ((3, 2, 2), (5, 7, 3), (9, 7, 2), (9, 11, 3))),
                            ((2, 5), ((3, 18, 2), (4, 9, 3), (5, 4, 2)))):
            self.assertEqual(many_layings(floor, told), 2001)
            for number in (0, 1999, 2000, 2001, 10 ** 6):
                for function in JUDGES:
                    check_raises(self, "TooMany()", function, ("many", floor, told, number))

    def test_up_to_2000(self):
        for floor in ((1, 7), (7, 1)):
            self.assertEqual(many_layings(floor, ()), 1458)
            self.assertIs(is_so(("many", floor, (), 1458)), True)
            self.assertIs(is_so(("many", floor, (), 1457)), False)
            self.assertEqual(len(reason_for(("many", floor, (), 1458))), 1458)
            self.assertEqual(len(paper_against(("many", floor, (), 1457))), 1458)
        floor = (1, 8)
        for piece in own_pieces(floor):
            many = many_layings(floor, (piece,))
            if many > 2000:
                check_raises(self, "TooMany()", is_so, ("many", floor, (piece,), many))
            else:
                self.assertEqual(len(reason_for(("many", floor, (piece,), many))), many)


class FirstFallen(unittest.TestCase):
    def test_beside_each(self):
        told = shuffled(5, drawn_demands(6), 200)
        for seed in range(60):
            draw = random.Random(seed)
            some = tuple(own for own in draw.sample(told, 12) if own_is_so(own) or draw.random() < 0.15)
            fallen = [at for at, own in enumerate(some) if not own_is_so(own)]
            self.assertEqual(first_fallen(some), fallen[0] if fallen else None)
            self.assertEqual(first_fallen(demands=listed(some)), fallen[0] if fallen else None)
        self.assertIsNone(first_fallen(()))
        self.assertIsNone(first_fallen([]))
        self.assertEqual(first_fallen((FALLEN, FALLEN)), 0)

    def test_unfit(self):
        check_unfit(self, first_fallen, [None], 0, [value for value in ODD if value not in ((), [])])
        for bad in [*ODD, (), [], GOOD[:3], ("many", (1, 1), (), -1), ("sure", (1, 1), FALLEN[2], LEFT[0])]:
            # Unfit() is ahead of what falls, and of TooMany().
            for demands in ((FALLEN, bad), (bad, FALLEN), (TOO_MANY[0], bad), (GOOD, FALLEN, bad, GOOD)):
                check_raises(self, "Unfit()", first_fallen, demands)
        check_raises(self, "Unfit()", first_fallen, GOOD)


class Refusals(unittest.TestCase):
    def test_demands(self):
        odd = [*ODD, (), [], GOOD[:3], (*GOOD, 1), ("many", (1, 1), (), -1), ["many", [1, 1], [], True], (GOOD,),
               ("sure", (1, 1), FALLEN[2], LEFT[0]), ("sure", (8, 8), (), (0, 0, 0)), ("many", (8, 8), (), -1),
               ("many", (8, 8), ((0, 0, 0),), 1), ("finish", (1, 2), [[1, 3, 2], [0, 1, 0]]), ("many", (0, 0), (), 1)]
        for function in JUDGES:
            check_unfit(self, function, [None], 0, odd)
        for function in (is_paper_against, is_reason_for):
            for thing in (None, (), RIGHT, deep(19)):
                check_unfit(self, function, [None, thing], 0, odd)

    def test_by_name(self):
        self.assertIs(is_so(demand=listed(GOOD)), True)
        self.assertIs(is_reason_for(thing=(RIGHT, LEFT), demand=listed(GOOD)), True)
        self.assertIs(is_paper_against(thing=(RIGHT, LEFT), demand=["many", [1, 1], [], 1]), True)
        self.assertEqual(paper_against(demand=["many", [1, 1], [], 1]), (RIGHT, LEFT))
        self.assertEqual(reason_for(demand=["rounds", [2, 1], listed(TIED), 1]), ((0, 0),))

    def test_told_with_one_put_in(self):
        """A REASON for ("sure", ..) is told beside told with each other PIECE, ascending."""
        demand = ("sure", (1, 1), LEFT[:1], LEFT[1])
        (only,) = reason_for(demand)
        self.assertTrue(own_is_reason_against((1, 1), with_one_more(LEFT[:1], (0, 1, 0)), only)
                        or own_is_reason_against((1, 1), with_one_more(LEFT[:1], RIGHT[2]), only))


if __name__ == "__main__":
    unittest.main()
