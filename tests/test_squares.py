"""Squares and pairs: point [15]."""

import random
import unittest

from teefloors import errors, squares
from teefloors.layings import is_laying, some_laying
from teefloors.squares import (
    behind, deed_between, deeds, done, is_deed, is_done_by, laid_anew, layings_along, undone,
)
from tests.helpers import FLOORS, ODD, caught, check_raises, check_transcript, check_unfit, listed
from tests.own import (
    GREAT, SMALL, as_rise, drawn_laying, each_laying, own_ends, own_faces, own_flat, own_heights, own_layings,
    own_lot, own_sides, own_steps, own_ties,
)
from tests.own_deeds import drawn_plan, own_deeds, own_forms, own_graph, own_way, unlike_heights

EXAMPLES = r"""
>>> long = (1, 2)
>>> left = ((0, 1, 0), (0, 5, 0), (1, 3, 3), (1, 7, 3), (2, 0, 1), (2, 4, 1), (3, 2, 2), (3, 6, 2))
>>> deeds(long, left)
(('pair', ((0, 0), (0, 1))), ('square', ('dot', 0, 0)), ('square', ('dot', 0, 1)))
>>> laid_anew(long, left, ("square", ("dot", 0, 1)))
(((0, 5, 0), (1, 7, 3), (2, 4, 1), (3, 6, 2)), ((0, 6, 0), (1, 4, 1), (2, 7, 3), (3, 5, 2)))
>>> laid_anew(long, left, ("pair", ((0, 0), (0, 1))))
(((1, 3, 3), (2, 4, 1)), ((1, 3, 2), (2, 4, 0)))
>>> knot = done(long, left, ("pair", ((0, 0), (0, 1))))
>>> deeds(long, knot), done(long, knot, ("pair", ((0, 0), (0, 1)))) == left, deed_between(long, left, knot)
((('pair', ((0, 0), (0, 1))),), True, ('pair', ((0, 0), (0, 1))))
>>> path = (("square", ("dot", 0, 0)), ("square", ("dot", 0, 1)), ("pair", ((0, 0), (0, 1))))
>>> behind(long, left, path), len(layings_along(long, left, path)), is_done_by(long, left, path), is_done_by(long, left, path[::-1])
(((0, 2, 0), (0, 6, 0), (1, 0, 1), (1, 4, 2), (2, 3, 0), (2, 7, 3), (3, 1, 2), (3, 5, 2)), 4, True, False)
>>> undone(long, path)[0], is_deed(long, knot, ("square", ("dot", 0, 0)))
(('pair', ((0, 0), (0, 1))), False)
>>> done(long, knot, ("square", ("dot", 0, 0)))
raises CanNot()
>>> behind(long, left, path[:1] + path[2:])
raises Broken(place=1)
>>> done(long, left, ("square", ("rim",)))
raises Unfit()
"""

LONG = (1, 2)
LEFT = ((0, 1, 0), (0, 5, 0), (1, 3, 3), (1, 7, 3), (2, 0, 1), (2, 4, 1), (3, 2, 2), (3, 6, 2))
TIE = ((0, 0), (0, 1))
FIRST, SECOND, PAIR = ("square", ("dot", 0, 0)), ("square", ("dot", 0, 1)), ("pair", TIE)
# None of these has the form of a DEED on LONG.
ODD_DEEDS = [
    *ODD, 0, (), [], FIRST[1], TIE, "square", ("square",), ("pair",), ("square", ("rim",)), ("square", "rim"),
    ("square", ("dot", 1, 0)), ("square", ("dot", 0, 2)), ("square", ("dot", 0, -1)), ("square", ("inner", 0, 0)),
    ("square", TIE), ("pair", FIRST[1]), ("pair", ((0, 1), (0, 0))), ("pair", ((0, 0), (1, 0))), ("pair", (0, 1)),
    ("pair", ((0, 1), (0, 2))), ("pair", ((0, 0), (0, 0))), ("square", ("dot", 0, False)), ("square", ("dot", 0, "0")),
    ("square", ("dot", 0)), ("pair", ((0, 0), (0, True))), ("pair", ((0, 0), None)), ("pair", ((0, 0), (0, 1, 0))),
    ("Pair", TIE), ("", TIE), (None, TIE), (0, FIRST[1]), (("square",), ("dot", 0, 0)), ("square", ("dot", 0, 0), 0),
    ("pair", TIE, TIE), ("square", None), ("pair", None), ("square", ODD[-1]), ("pair", ODD[-1]), (ODD[-1], TIE),
    ("rise", ("dot", 0, 0)), ("square", ("dot", 0, 0.0)), (PAIR,), ("pair", (TIE,)),
]
ODD_LAYINGS = [*ODD, 0, (), [], LEFT[:7], LEFT[::-1], LEFT * 2, LEFT + LEFT[7:], (*LEFT[:7], (3, 6, 1)),
               some_laying((1, 1)), some_laying((2, 1)), (LEFT,)]


def odd_plans():
    """None of these is a tuple of what has the form of a DEED on LONG; () is one."""
    told = [deed for deed in ODD_DEEDS if deed not in ((), [], (PAIR,))]
    return [*told, *[(deed,) for deed in ODD_DEEDS], *[(PAIR, deed, PAIR) for deed in ODD_DEEDS], FIRST, PAIR]


class Examples(unittest.TestCase):
    def test_examples(self):
        check_transcript(self, EXAMPLES, [errors, squares])


class Deeds(unittest.TestCase):
    def test_just_those_found(self):
        for floor, laying in each_laying(2):
            found = own_deeds(floor, laying)
            self.assertEqual(deeds(floor, laying), tuple(sorted(found)))
            for deed in own_forms(floor):
                self.assertIs(is_deed(floor, laying, deed), deed in found)
                if deed not in found:
                    check_raises(self, "CanNot()", done, floor, laying, deed)
                    check_raises(self, "CanNot()", laid_anew, floor, laying, deed)

    def test_there_and_back(self):
        for floor, laying in each_laying(2):
            for deed, other in own_deeds(floor, laying).items():
                self.assertEqual(done(floor, laying, deed), other)
                self.assertTrue(is_laying(floor, other))
                self.assertEqual(done(floor, other, deed), laying)
                taken = tuple(sorted(set(laying) - set(other)))
                laid = tuple(sorted(set(other) - set(laying)))
                self.assertEqual(laid_anew(floor, laying, deed), (taken, laid))
                self.assertEqual(laid_anew(floor, other, deed), (laid, taken))
                self.assertEqual(len(laid), 4 if deed[0] == "square" else 2)

    def test_what_changes(self):
        for floor, laying in each_laying(1, 40):
            for deed, other in own_deeds(floor, laying).items():
                heights, turned = unlike_heights(floor, laying, other), set(own_lot(laying)) ^ set(own_lot(other))
                if deed[0] == "square":
                    self.assertEqual((list(heights), turned), ([deed[1]], set()))
                    self.assertEqual(abs(heights[deed[1]]), 2)
                else:
                    self.assertEqual((heights, turned), ({}, {deed[1]}))

    def test_by_heights_and_ties(self):
        for floor, laying in each_laying(2):
            heights, lot = own_heights(floor, laying), own_lot(laying)
            told = [("pair", tie) for tie in own_flat(floor, as_rise(floor, heights))]
            for face in own_faces(floor)[:-1]:
                beside = {heights[other] for other in own_steps(floor)[face]}
                cut = all(tie not in lot for tie in own_ties(floor) if face in own_ends(tie))
                tied = all(tie in lot for tie in own_ties(floor) if face in own_sides(floor, tie))
                if len(beside) == 1 and cut and tied:
                    told.append(("square", face))
            self.assertEqual(deeds(floor, laying), tuple(told))

    def test_by_pieces_unlike(self):
        for floor in SMALL:
            graph, told = own_graph(floor), own_layings(floor)
            for laying in told[::1 + len(told) // 12]:
                around = set(graph[laying].values())
                for other in told:
                    many = len(set(other) - set(laying))
                    apart = sorted(word for (word, _), own in graph[laying].items() if own == other)
                    if many == 2:
                        self.assertEqual(apart, ["pair"])
                    elif many == 4 and apart != ["square"]:
                        self.assertEqual(apart, [])
                        both = [own for own in around if other in graph[own].values()]
                        self.assertEqual({len(set(own) - set(laying)) for own in both}, {2})
                    elif many != 4:
                        self.assertEqual(apart, [])

    def test_some_lead_everywhere(self):
        for floor in SMALL:
            graph, waiting, seen = own_graph(floor), [some_laying(floor)], set()
            while waiting:
                laying = waiting.pop()
                if laying not in seen:
                    seen.add(laying)
                    waiting.extend(done(floor, laying, deed) for deed in deeds(floor, laying))
            self.assertEqual(sorted(seen), sorted(graph))

    def test_is_deed_of_any_value(self):
        for thing in [*ODD_DEEDS, list(PAIR), ("square", ["dot", 0, 0]), ("pair", [(0, 0), (0, 1)]), (PAIR,) * 3000]:
            self.assertIs(is_deed(LONG, LEFT, thing), False)
        for thing in (FIRST, SECOND, PAIR):
            self.assertIs(is_deed(LONG, LEFT, thing), True)
        self.assertIs(is_deed(thing=PAIR, laying=listed(LEFT), floor=[1, 2]), True)

    def test_deed_between(self):
        for floor, laying in each_laying(1, 20):
            for deed, other in own_deeds(floor, laying).items():
                self.assertEqual(deed_between(floor, laying, other), deed)
            check_raises(self, "CanNot()", deed_between, floor, laying, laying)
        for floor in SMALL:
            told = own_layings(floor)
            for laying in told[::1 + len(told) // 6]:
                leads = {other: deed for deed, other in own_graph(floor)[laying].items()}
                for other in told[::1 + len(told) // 200]:
                    if other in leads:
                        self.assertEqual(deed_between(floor, laying, other), leads[other])
                    else:
                        check_raises(self, "CanNot()", deed_between, floor, laying, other)
        self.assertEqual(deed_between(other=listed(done(LONG, LEFT, PAIR)), laying=listed(LEFT), floor=[1, 2]), PAIR)


class Plans(unittest.TestCase):
    def drawn(self, many):
        for floor in [*SMALL, *GREAT]:
            for seed in range(many):
                draw = random.Random(seed)
                laying = drawn_laying(draw, floor)
                plan, other = drawn_plan(draw, floor, laying, draw.randrange(25))
                yield draw, floor, laying, plan, other

    def test_there_and_back(self):
        for _, floor, laying, plan, other in self.drawn(4):
            way = layings_along(floor, laying, plan)
            self.assertIsInstance(way, list)
            self.assertEqual(way, own_way(floor, laying, plan))
            self.assertEqual((way[0], way[-1], len(way)), (laying, other, len(plan) + 1))
            self.assertEqual(behind(floor, laying, plan), other)
            self.assertIs(is_done_by(floor, laying, plan), True)
            back = undone(floor, plan)
            self.assertEqual(back, tuple(reversed(plan)))
            self.assertEqual(layings_along(floor, other, back), way[::-1])
            self.assertEqual(behind(floor, other, back), laying)

    def test_of_no_deeds(self):
        for floor in FLOORS:
            laying = some_laying(floor)
            self.assertEqual(behind(floor, laying, ()), laying)
            self.assertEqual(layings_along(floor, laying, []), [laying])
            self.assertIs(is_done_by(floor, laying, ()), True)
            self.assertEqual(undone(floor, []), ())

    def test_broken(self):
        broken = 0
        for draw, floor, laying, plan, _ in self.drawn(12):
            forms = own_forms(floor)
            at = draw.randrange(len(plan) + 1)
            wrong = (*plan[:at], draw.choice(forms), *plan[at + draw.randrange(2):])
            place = len(own_way(floor, laying, wrong)) - 1
            if place < len(wrong):
                broken += 1
                told = f"Broken(place={place})"
                check_raises(self, told, behind, floor, laying, wrong)
                check_raises(self, told, layings_along, floor, laying, wrong)
                check_raises(self, told, behind, list(floor), listed(laying), listed(wrong))
                self.assertIs(is_done_by(floor, laying, wrong), False)
            else:
                self.assertIs(is_done_by(floor, laying, wrong), True)
            self.assertEqual(undone(floor, wrong), wrong[::-1])
        self.assertGreater(broken, 50)

    def test_long(self):
        plan = (PAIR,) * 2000
        self.assertEqual(behind(LONG, LEFT, plan), LEFT)
        self.assertEqual(len(layings_along(LONG, LEFT, plan)), 2001)
        check_raises(self, "Broken(place=2001)", behind, LONG, LEFT, (*plan, PAIR, FIRST))
        self.assertIs(is_done_by(LONG, LEFT, plan * 3), True)
        square = ("square", ("dot", 4, 4))
        self.assertEqual(behind((8, 8), some_laying((8, 8)), (square,) * 2000), some_laying((8, 8)))

    def test_is_done_by_any_value(self):
        for thing in [*odd_plans(), [], [PAIR], (list(PAIR),), (("pair", list(TIE)),), (("square", ["dot", 0, 0]),),
                      (FIRST, PAIR), (PAIR, FIRST), FIRST * 500]:
            self.assertIs(is_done_by(LONG, LEFT, thing), False)
        self.assertIs(is_done_by(thing=(FIRST, FIRST, PAIR), laying=listed(LEFT), floor=[1, 2]), True)


class Refusals(unittest.TestCase):
    def test_floors(self):
        odd = [*ODD, (0, 1), (1, 0), (), [], (1, 1, 1), 1, (2, 1)]
        for function, more in {
            is_deed: [LEFT, PAIR], deeds: [LEFT], done: [LEFT, PAIR], laid_anew: [LEFT, PAIR], behind: [LEFT, (PAIR,)],
            layings_along: [LEFT, (PAIR,)], is_done_by: [LEFT, ()], undone: [(PAIR,)], deed_between: [LEFT, LEFT],
        }.items():
            check_unfit(self, function, [None, *more], 0, odd)

    def test_layings(self):
        for function, more in {
            is_deed: [None], deeds: [], done: [FIRST], laid_anew: [FIRST], behind: [(FIRST, PAIR)],
            layings_along: [(FIRST, PAIR)], is_done_by: [None], deed_between: [LEFT],
        }.items():
            check_unfit(self, function, [LONG, None, *more], 1, ODD_LAYINGS)
        check_unfit(self, deed_between, [LONG, LEFT, None], 2, ODD_LAYINGS)

    def test_deeds(self):
        for function in (done, laid_anew):
            check_unfit(self, function, [LONG, LEFT, None], 2, ODD_DEEDS)

    def test_plans(self):
        for function in (behind, layings_along):
            check_unfit(self, function, [LONG, LEFT, None], 2, odd_plans())
            # Unfit() is ahead of Broken(), wherever what is unfit stands.
            check_unfit(self, function, [LONG, LEFT, None], 2, [(FIRST, PAIR, deed) for deed in ODD_DEEDS])
        check_unfit(self, undone, [LONG, None], 1, odd_plans())

    def test_other_floors_deeds(self):
        square = ("square", ("inner", 0, 0))
        self.assertEqual(undone((2, 2), (square,)), (square,))
        for function in (done, laid_anew):
            check_raises(self, "Unfit()", function, (1, 1), some_laying((1, 1)), SECOND)
            self.assertIsNone(caught(function, (1, 1), some_laying((1, 1)), FIRST))


if __name__ == "__main__":
    unittest.main()
