"""Sums over lots and rises: point [14]."""

import fractions
import functools
import unittest

from teefloors import errors, sums
from teefloors.layings import all_layings
from teefloors.mirrored import unlike_layings
from teefloors.sums import (
    even_chance, flattest, lot_table, lots_with, rise_table, sum_by_lots, sum_by_rises, sum_by_ties,
)
from tests.helpers import FEW_LAYINGS, FLOORS, ODD, check_raises, check_transcript, check_unfit, listed
from tests.own import own_flat, own_layings, own_lots, own_rises, own_rounds, own_ties
from tests.test_lattice import FEW_RISES
from tests.test_ties import UNFIT_LOTS

EXAMPLES = r"""
>>> [sum_by_lots(own) for own in ((1, 1), (2, 1), (3, 1), (2, 2))], [sum_by_ties(own) for own in ((2, 2), (3, 2))], [sum_by_rises(own) for own in ((2, 2), (2, 3))]
([2, 6, 18, 84], [84, 1182], [84, 1182])
>>> lot_table((2, 2)), lot_table((3, 1)), rise_table((2, 1)), rise_table((2, 2))
((0, 4, 7, 4, 1), (0, 1, 2, 1), (2, 2), (4, 0, 12, 0, 2))
>>> lots_with((2, 1), 1), lots_with((2, 2), 4), lots_with((2, 2), 5), even_chance((2, 1), ()), even_chance((2, 2), (((0, 0), (0, 1)),))
([(((0, 0), (1, 0)),)], [()], [], (2, 3), (2, 21))
>>> flattest((2, 1)), len(flattest((2, 2)))
([(((-1,), (-1,)), ((),)), (((1,), (1,)), ((),))], 2)
>>> sum_by_lots((3, 3))
raises TooMany()
"""

FEW_TIES = [(1, n) for n in range(1, 12)] + [(2, 2), (2, 3), (2, 4)]
FEW_TIES += [(n, m) for m, n in FEW_TIES if m != n]
MANY_TIES = [floor for floor in FLOORS if floor not in FEW_TIES] + [(1, 12), (12, 1), (50, 50)]
MANY_RISES = [floor for floor in FLOORS if floor not in FEW_RISES] + [(1, 11), (11, 1), (50, 50)]
BY_LOTS = [sum_by_lots, lot_table, sum_by_ties]
BY_RISES = [sum_by_rises, rise_table, flattest]


@functools.lru_cache(None)
def own_counts(floor):
    """For each LOT how many ROUNDS it has."""
    return {lot: len(own_rounds(floor, lot)) for lot in own_lots(floor)}


@functools.lru_cache(None)
def own_flats(floor):
    """For each RISE how many FLAT TIES it has."""
    return {rise: len(own_flat(floor, rise)) for rise in own_rises(floor)}


def own_table(numbers, most):
    return tuple(list(numbers).count(own) for own in range(most + 1))


class Examples(unittest.TestCase):
    def test_examples(self):
        check_transcript(self, EXAMPLES, [errors, sums])


class ThreeSums(unittest.TestCase):
    def test_they_are_one(self):
        for floor in FEW_TIES:
            many = sum(2 ** rounds for rounds in own_counts(floor).values())
            self.assertEqual(sum_by_lots(floor), many)
            self.assertEqual(sum_by_ties(floor), many)
            if floor in FEW_RISES:
                self.assertEqual(sum_by_rises(floor), many)
            if min(floor) == 1:
                self.assertEqual(many, 2 * 3 ** (max(floor) - 1))

    def test_they_are_the_layings(self):
        for floor, many in FEW_LAYINGS.items():
            self.assertEqual(len(own_layings(floor)), many)
            self.assertEqual({sum_by_lots(floor), sum_by_rises(floor), sum_by_ties(floor)}, {many})
            self.assertEqual(len(all_layings(floor)), many)

    def test_lists_of_layings_end_at_2000(self):
        for floor in FEW_TIES:
            many = sum(2 ** rounds for rounds in own_counts(floor).values())
            if many > 2000:
                check_raises(self, "TooMany()", all_layings, floor)
                check_raises(self, "TooMany()", unlike_layings, floor)
            else:
                self.assertEqual(len(all_layings(floor)), many)

    def test_by_rises_alone(self):
        for floor in FEW_RISES:
            self.assertEqual(sum_by_rises(floor), sum(2 ** flat for flat in own_flats(floor).values()))
            self.assertEqual(sum_by_rises(list(floor[::-1])), sum_by_rises(floor))
        # 3 by 3 and 2 by 5 DOTS have more than 10 TIES, but few RISES.
        self.assertEqual([sum_by_rises((3, 3)), sum_by_rises(floor=[5, 2])], [78696, 234390])


class Lots(unittest.TestCase):
    def test_table(self):
        for floor in FEW_TIES:
            table = lot_table(floor)
            self.assertIsInstance(table, tuple)
            self.assertEqual(table, own_table(own_counts(floor).values(), floor[0] * floor[1]))
            self.assertEqual(sum(table), 2 ** len(own_ties(floor)))
            self.assertEqual((table[0], table[-1]), (0, 1))
            self.assertEqual(lot_table(floor=list(floor)), table)

    def test_lots_with(self):
        for floor in FEW_TIES:
            for number in range(floor[0] * floor[1] + 2):
                told = lots_with(floor, number)
                self.assertIsInstance(told, list)
                self.assertEqual(told, sorted(lot for lot, many in own_counts(floor).items() if many == number))
            for number in (-1, -10 ** 6, 10 ** 6, 10 ** 40):
                self.assertEqual(lots_with(floor, number), [])
            self.assertEqual(lots_with(number=floor[0] * floor[1], floor=list(floor)), [()])

    def test_even_chance(self):
        for floor in FEW_TIES:
            whole = sum(2 ** many for many in own_counts(floor).values())
            shares = []
            for lot, many in own_counts(floor).items():
                share = fractions.Fraction(2 ** many, whole)
                told = even_chance(floor, lot) if len(shares) % 7 == 0 else (share.numerator, share.denominator)
                self.assertEqual(told, (share.numerator, share.denominator))
                shares.append(share)
            self.assertEqual(sum(shares), 1)
        self.assertEqual(even_chance(lot=[listed(own_ties((2, 2))[0])], floor=[2, 2]), (2, 21))
        self.assertEqual(even_chance((1, 1), ()), (1, 1))


class Rises(unittest.TestCase):
    def test_table(self):
        for floor in FEW_RISES:
            table = rise_table(floor)
            self.assertIsInstance(table, tuple)
            self.assertEqual(table, own_table(own_flats(floor).values(), len(own_ties(floor))))
            self.assertEqual(sum(table), len(own_rises(floor)))
            self.assertEqual(rise_table(floor=list(floor[::-1])), table)

    def test_flattest(self):
        for floor in FEW_RISES:
            most = max(own_flats(floor).values())
            told = flattest(floor)
            self.assertIsInstance(told, list)
            self.assertEqual(told, sorted(rise for rise, flat in own_flats(floor).items() if flat == most))


class Refusals(unittest.TestCase):
    def test_too_many_ties(self):
        for floor in MANY_TIES:
            for function in BY_LOTS:
                check_raises(self, "TooMany()", function, floor)
                check_raises(self, "TooMany()", function, floor=list(floor))
            for number in (1, -5, 10 ** 6):
                check_raises(self, "TooMany()", lots_with, floor, number)
            check_raises(self, "TooMany()", even_chance, floor, ())
            check_raises(self, "TooMany()", even_chance, floor, [((0, 0), (0, 1))] if floor[1] > 1 else [])

    def test_too_many_rises(self):
        for floor in MANY_RISES:
            for function in BY_RISES:
                check_raises(self, "TooMany()", function, floor)
                check_raises(self, "TooMany()", function, floor=list(floor))

    def test_floors(self):
        odd = [*ODD, (0, 1), (1, 0), (), [], (1, 1, 1), 1]
        for function in [*BY_LOTS, *BY_RISES]:
            check_unfit(self, function, [None], 0, odd)
        check_unfit(self, lots_with, [None, 1], 0, odd)
        check_unfit(self, even_chance, [None, ()], 0, odd)

    def test_numbers(self):
        odd = [value for value in ODD if type(value) is not int]
        for floor in ((2, 2), (3, 3)):
            check_unfit(self, lots_with, [floor, None], 1, [*odd, (), [], (1,), 1.0, "1"])

    def test_lots(self):
        # Unfit() is ahead of TooMany().
        for floor in ((2, 2), (3, 3)):
            odd = UNFIT_LOTS if floor == (2, 2) else [value for value in ODD if value not in ((), [])]
            check_unfit(self, even_chance, [floor, None], 1, odd)


if __name__ == "__main__":
    unittest.main()
