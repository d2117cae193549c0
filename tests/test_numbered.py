"""Layings by number: point [20]."""

import random
import unittest

from teefloors import errors, numbered as module
from teefloors.counts import many_layings
from teefloors.layings import some_laying
from teefloors.numbered import (
    block_row, first_laying, how_many_begin, last_laying, laying_ahead, laying_at, laying_number, layings_from,
    next_laying, next_pieces,
)
from tests.helpers import FEW_LAYINGS, FLOORS, ODD, check_raises, check_transcript, check_unfit, listed
from tests.own import SMALL, drawn_laying, own_blocks, own_layings
from tests.own_told import is_own_laying, own_in_order, own_row
from tests.test_counts import NARROW, WIDE
from tests.test_squares import LEFT, ODD_LAYINGS
from tests.test_told import own_pieces

EXAMPLES = r"""
>>> first = first_laying((1, 2))
>>> first
((0, 1, 0), (0, 5, 0), (1, 3, 2), (1, 7, 3), (2, 0, 1), (2, 4, 0), (3, 2, 2), (3, 6, 2))
>>> block_row((1, 2), first)
((0, 1, 0), (1, 3, 2), (0, 5, 0), (1, 7, 3), (2, 0, 1), (3, 2, 2), (2, 4, 0), (3, 6, 2))
>>> laying_number((1, 2), first), laying_at((1, 2), 5) == last_laying((1, 2)), laying_ahead((1, 2), next_laying((1, 2), first)) == first
(0, True, True)
>>> next_pieces((1, 2), ()), next_pieces((1, 2), ((0, 1, 0),)), next_pieces((1, 2), block_row((1, 2), first))
(((0, 1, 0), (1, 0, 1)), ((1, 3, 2), (1, 3, 3)), ())
>>> [how_many_begin((1, 2), block_row((1, 2), first)[:own]) for own in range(4)], how_many_begin((2, 2), ()), laying_number((2, 2), last_laying((2, 2)))
([6, 3, 1, 1], 84, 83)
>>> layings_from((1, 1), 1, 5), layings_from((1, 1), 2, 5)
([((0, 2, 0), (1, 0, 1), (2, 3, 3), (3, 1, 2))], [])
>>> laying_at((1, 1), 2)
raises CanNot()
>>> next_pieces((1, 2), ((0, 1, 1),))
raises Unfit()
"""

LISTED = [*SMALL, (1, 4), (4, 1)]
# FLOORS gone along the longer side, and across it, to those of the most LAYINGS.
GREAT = [(8, 1), (1, 8), (2, 7), (5, 4), (4, 5), (8, 3), (3, 8), (7, 7), (8, 7), (7, 8)]
ODD_NUMBERS = [*[value for value in ODD if type(value) is not int], -1, -10 ** 6, (), [], (1,), 1.0, "1", True, False]
UNFIT_BEGINNINGS = [
    *[value for value in ODD if value not in ((), [])], 0, (0, 1, 0), ((1, 3, 2),), ((0, 1, 0), (0, 1, 0)),
    ((0, 1, 0), (0, 5, 0)), ((0, 1, 1),), ((0, 1, 2),), ((0, 1, 3),), ((0, 0, 0),), ((0, 1, 0), None),
    ((0, 1, 0), (1, 3, 1), (0, 5)), ((0, 1, True),), "", "010",
]


class Examples(unittest.TestCase):
    def test_examples(self):
        check_transcript(self, EXAMPLES, [errors, module])


class BesideAllLayings(unittest.TestCase):
    def test_there_and_back(self):
        for floor in LISTED:
            order = own_in_order(floor)
            few = 1 + len(order) // 150
            for number in [*range(0, len(order), few), len(order) - 1]:
                laying = order[number]
                self.assertEqual(block_row(floor, laying), own_row(floor, laying))
                self.assertEqual(laying_number(floor, laying), number)
                self.assertEqual(laying_at(floor, number), laying)
                if number > 0:
                    self.assertEqual(laying_ahead(floor, laying), order[number - 1])
                if number + 1 < len(order):
                    self.assertEqual(next_laying(floor, laying), order[number + 1])
            self.assertEqual((first_laying(floor), last_laying(floor)), (order[0], order[-1]))
            check_raises(self, "CanNot()", laying_ahead, floor, order[0])
            check_raises(self, "CanNot()", next_laying, floor, order[-1])
            for number in (len(order), len(order) + 1, 10 ** 6, 10 ** 30, 10 ** 40):
                check_raises(self, "CanNot()", laying_at, floor, number)

    def test_all_layings_in_order(self):
        for floor in FEW_LAYINGS:
            order, found = own_in_order(floor), []
            while len(found) < len(order):
                told = layings_from(floor, len(found), 100)
                self.assertIsInstance(told, list)
                self.assertEqual(len(told), min(100, len(order) - len(found)))
                found.extend(told)
            self.assertEqual(found, order)
            self.assertEqual(sorted(found), own_layings(floor))

    def test_layings_from(self):
        for floor in LISTED:
            order, draw = own_in_order(floor), random.Random(str(floor))
            for _ in range(12):
                number, many = draw.randrange(len(order) + 3), draw.choice((0, 1, 2, 7, 99, 100))
                self.assertEqual(layings_from(floor, number, many), order[number:number + many])
            for number in (len(order), 10 ** 30):
                for many in (0, 1, 100):
                    self.assertEqual(layings_from(floor, number, many), [])
        self.assertEqual(layings_from(many=2, number=82, floor=[2, 2]), own_in_order((2, 2))[82:])

    def test_beginnings(self):
        for floor in LISTED:
            rows = [own_row(floor, laying) for laying in own_in_order(floor)]
            draw = random.Random(str(floor))
            for row in draw.sample(rows, min(len(rows), 6)):
                for many in range(len(row) + 1):
                    told = row[:many]
                    begun = [own for own in rows if own[:many] == told]
                    self.assertEqual(how_many_begin(floor, told), len(begun))
                    coming = sorted({own[many] for own in begun if many < len(own)})
                    self.assertEqual(next_pieces(floor, told), tuple(coming))
                    self.assertEqual(how_many_begin(list(floor), listed(told)), len(begun))
                    if coming:
                        more = [how_many_begin(floor, (*told, piece)) for piece in coming]
                        self.assertEqual(sum(more), len(begun))

    def test_beginnings_of_none(self):
        none = 0
        for floor in LISTED:
            rows = [own_row(floor, laying) for laying in own_in_order(floor)]
            draw, blocks = random.Random(str(floor)), own_blocks(floor)
            four = {block: [own for own in own_pieces(floor) if (own[0] // 2, own[1] // 2) == block] for block in blocks}
            for _ in range(40):
                told = tuple(draw.choice(four[block]) for block in blocks[:draw.randrange(len(blocks) + 1)])
                begun = [own for own in rows if own[:len(told)] == told]
                none += begun == []
                self.assertEqual(how_many_begin(floor, told), len(begun))
                coming = {own[len(told)] for own in begun if len(told) < len(own)}
                self.assertEqual(next_pieces(pieces=listed(told), floor=list(floor)), tuple(sorted(coming)))
        self.assertGreater(none, 100)


class GreatFloors(unittest.TestCase):
    def check_number(self, floor, number):
        laying = laying_at(floor, number)
        self.assertTrue(is_own_laying(floor, laying))
        self.assertEqual(list(laying), sorted(laying))
        self.assertEqual(laying_number(floor, laying), number)
        return laying

    def test_there_and_back(self):
        for floor in GREAT:
            whole, draw = many_layings(floor, ()), random.Random(str(floor))
            for number in (1, draw.randrange(whole)):
                self.check_number(floor, number)
            first, last = first_laying(floor), last_laying(floor)
            self.assertEqual([laying_number(floor, own) for own in (first, last)], [0, whole - 1])
            check_raises(self, "CanNot()", laying_at, floor, whole)
            check_raises(self, "CanNot()", laying_at, floor, 10 ** 60)
            check_raises(self, "CanNot()", laying_ahead, floor, first)
            check_raises(self, "CanNot()", next_laying, floor, last)
            self.assertEqual(layings_from(floor, whole, 100), [])
            self.assertEqual(layings_from(floor, whole - 2, 100), [laying_ahead(floor, last), last])

    def test_drawn_layings(self):
        for floor in GREAT:
            laying = drawn_laying(random.Random(str(floor)), floor)
            number = laying_number(floor, laying)
            self.assertEqual(laying_at(floor, number), laying)
            self.assertEqual(block_row(floor, laying), own_row(floor, laying))
            after = next_laying(floor, laying)
            self.assertEqual(laying_number(floor, after), number + 1)
            self.assertLess(own_row(floor, laying), own_row(floor, after))
            self.assertEqual(laying_ahead(floor, after), laying)
            before = laying_ahead(floor, laying)
            self.assertEqual(laying_number(floor, before), number - 1)
            some = layings_from(floor, number - 1, 100)
            self.assertEqual(some[:3], [before, laying, after])
            self.assertEqual(len(some), 100)
            rows = [own_row(floor, own) for own in some]
            self.assertEqual(rows, sorted(set(rows)))
            self.assertTrue(is_own_laying(floor, some[-1]))
            self.assertEqual(laying_number(floor, some[-1]), number + 98)

    def test_beginnings(self):
        for floor in GREAT:
            draw = random.Random(str(floor))
            row = own_row(floor, drawn_laying(draw, floor))
            for many in sorted({0, 1, draw.randrange(len(row)), draw.randrange(len(row)), len(row) - 1}):
                told = row[:many]
                coming = next_pieces(floor, told)
                self.assertIn(row[many], coming)
                whole = how_many_begin(floor, told)
                self.assertEqual(whole, many_layings(floor, tuple(sorted(told))))
                self.assertEqual(sum(how_many_begin(floor, (*told, piece)) for piece in coming), whole)
            self.assertEqual((how_many_begin(floor, row), next_pieces(floor, row)), (1, ()))

    def test_numbers_to_the_bound(self):
        self.assertGreater(many_layings((7, 7), ()), 10 ** 30)
        self.check_number((7, 7), 10 ** 30)
        self.check_number((8, 7), 10 ** 30)
        self.assertEqual(len(layings_from((7, 8), 10 ** 30, 100)), 100)

    def test_one_row(self):
        for floor in ((1, 40), (40, 1), (1, 63), (63, 1)):
            whole = 2 * 3 ** (max(floor) - 1)
            self.assertEqual(how_many_begin(floor, ()), whole)
            self.assertEqual(laying_number(floor, last_laying(floor)), whole - 1)
            self.check_number(floor, 10 ** 18)

    def test_rows_of_all_floors(self):
        for floor in FLOORS:
            laying = some_laying(floor)
            self.assertEqual(block_row(floor, laying), own_row(floor, laying))
            if floor in NARROW and sum(floor) < 13:
                self.assertEqual(laying_at(floor, laying_number(floor, laying)), laying)
        self.assertEqual(block_row(laying=listed(some_laying((8, 8))), floor=[8, 8]),
                         own_row((8, 8), some_laying((8, 8))))


class Refusals(unittest.TestCase):
    def test_too_many(self):
        for floor in WIDE:
            laying = some_laying(floor)
            row = own_row(floor, laying)
            for function, *more in [
                (how_many_begin, ()), (how_many_begin, row[:3]), (next_pieces, ()), (next_pieces, row),
                (laying_number, laying), (laying_at, 0), (laying_at, 10 ** 60), (first_laying,), (last_laying,),
                (next_laying, laying), (laying_ahead, laying), (layings_from, 0, 100), (layings_from, 0, 101),
                (layings_from, 0, 0), (layings_from, 10 ** 70, 5),
            ]:
                check_raises(self, "TooMany()", function, floor, *more)
                check_raises(self, "TooMany()", function, list(floor), *listed(more))
        for floor in ((1, 1), (2, 2), (8, 7)):
            for number in (0, 10 ** 30):
                for many in (101, 1000, 10 ** 6):
                    check_raises(self, "TooMany()", layings_from, floor, number, many)

    def test_floors(self):
        odd = [*ODD, (0, 1), (1, 0), (), [], (1, 1, 1), 1]
        for function, more in {
            block_row: [LEFT], how_many_begin: [()], next_pieces: [()], laying_number: [LEFT], laying_at: [0],
            first_laying: [], last_laying: [], next_laying: [LEFT], laying_ahead: [LEFT], layings_from: [0, 101],
        }.items():
            check_unfit(self, function, [None, *more], 0, odd)

    def test_layings(self):
        for function in (block_row, laying_number, next_laying, laying_ahead):
            check_unfit(self, function, [(1, 2), None], 1, ODD_LAYINGS)
            check_unfit(self, function, [(8, 8), None], 1, [*ODD_LAYINGS, LEFT])

    def test_numbers(self):
        # Unfit() is ahead of CanNot(), and of TooMany().
        for floor in ((1, 1), (8, 8)):
            check_unfit(self, laying_at, [floor, None], 1, ODD_NUMBERS)
            for many in (5, 101):
                check_unfit(self, layings_from, [floor, None, many], 1, ODD_NUMBERS)
            for number in (0, 10 ** 50):
                check_unfit(self, layings_from, [floor, number, None], 2, ODD_NUMBERS)

    def test_beginnings(self):
        row = own_row((1, 2), LEFT)
        odd = [*UNFIT_BEGINNINGS, (*row, row[0]), (*row, (0, 9, 0)), row[1:], row[::-1], LEFT, (row,), (*row[:3], None)]
        for function in (how_many_begin, next_pieces):
            check_unfit(self, function, [(1, 2), None], 1, odd)
            check_unfit(self, function, [(8, 8), None], 1, UNFIT_BEGINNINGS)
            # A PIECE that goes off the FLOOR, of the right BLOCK.
            check_raises(self, "Unfit()", function, (1, 1), ((0, 1, 0), (1, 3, 2)))


if __name__ == "__main__":
    unittest.main()
