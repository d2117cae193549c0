"""TOLD that clash, counted: points [19], [20] and [24] beside can_finish of point [18]."""

import random
import unittest
from unittest import mock

from teefloors import fronts
from teefloors.counts import block_shares, many_layings, many_rises, share_of
from teefloors.finished import can_finish
from teefloors.judge import is_paper_against, is_reason_for, is_so, paper_against, reason_for
from teefloors.numbered import how_many_begin, next_pieces
from tests.helpers import check_raises
from tests.own import drawn_laying, own_blocks
from tests.test_counts import NARROW, own_block, own_four
from tests.test_told import own_both_ways, own_pieces, own_signs_told


def drawn_blocks(draw, floor):
    """A BLOCK of the first, a middle and the last rank of a FLOOR: if it is a square one, along both sides."""
    for side in (0, 1):
        if floor[side] == max(floor):
            for rank in sorted({0, floor[side], 2 * floor[side] - 1}):
                place = draw.randrange(2 * min(floor))
                yield (rank, place) if side == 0 else (place, rank)


def two_of_one_block(draw, floor, block):
    """Two PIECES of this BLOCK with unlike SIGNS."""
    four = own_four(floor, block)
    one, two = [[own for own in four if own_pieces(floor)[own][1] == sign] for sign in (1, -1)]
    return (draw.choice(one), draw.choice(two))


def one_gone_to(draw, floor, block):
    """A PIECE of this BLOCK, and one of the BLOCK to which it goes that has the other SIGN."""
    piece = draw.choice(own_four(floor, block))
    (_, goal), sign, _ = own_pieces(floor)[piece]
    others = [own for own in own_four(floor, goal) if own_pieces(floor)[own][1] != sign]
    return (piece, draw.choice(others))


def one_tie(draw, floor, block):
    """A PIECE of this BLOCK, and one with its SIGN, as it can be, that tells its TIE the other way."""
    telling = [own for own in own_four(floor, block) if own_pieces(floor)[own][2] is not None]
    if telling == []:
        return None
    piece = draw.choice(telling)
    tie, word = own_pieces(floor)[piece][2]
    others = [own for own, (_, _, pair) in own_pieces(floor).items()
              if pair is not None and pair[0] == tie and pair[1] != word]
    return (piece, draw.choice([own for own in others if not told_two_signs(floor, (piece, own))] or others))


def told_two_signs(floor, told):
    """Whether the PIECES of told tell two SIGNS of one BLOCK."""
    signs = own_signs_told(floor, told)
    return len({block for block, _ in signs}) < len(signs)


def drawn_near(draw, floor, block):
    """Some PIECES of BLOCKS near this one."""
    near = [own for own in own_blocks(floor) if abs(own[0] - block[0]) < 4 and abs(own[1] - block[1]) < 3]
    few = draw.sample(near, min(len(near), draw.choice((1, 2, 2, 3, 4))))
    return tuple(draw.choice(own_four(floor, own)) for own in few)


def far_round(draw, floor, block):
    """Some PIECES near this BLOCK of which no LAYING has all, though no SIGN and no TIE is told both ways."""
    for _ in range(60):
        told = drawn_near(draw, floor, block)
        if not told_two_signs(floor, told) and not own_both_ways(floor, told):
            if not can_finish(floor, tuple(sorted(told))):
                return told
    return None


KINDS = [two_of_one_block, one_gone_to, one_tie, far_round]


def each_clash(floor):
    """TOLD of a FLOOR that clash in the first, a middle and the last rank, with a BLOCK there; alone or among more."""
    draw = random.Random(str(floor))
    for block in drawn_blocks(draw, floor):
        for kind in KINDS:
            found = kind(draw, floor, block)
            if found is not None:
                share = draw.choice((0, 0, 0.03, 0.3))
                more = [own for own in drawn_laying(draw, floor) if draw.random() < share]
                yield kind, block, tuple(sorted({*found, *more}))


class Clashes(unittest.TestCase):
    def check_none(self, floor, told, block):
        self.assertIs(can_finish(floor, told), False)
        self.assertEqual((many_layings(floor, told), many_rises(floor, told)), (0, 0))
        four = own_four(floor, block)
        self.assertEqual(block_shares(floor, told, block), tuple((piece, 0) for piece in four))
        for piece in (told[0], four[-1]):
            check_raises(self, "CanNot()", share_of, floor, told, piece)

    def check_some(self, floor, told, block):
        self.assertIs(can_finish(floor, told), True)
        many = many_layings(floor, told)
        self.assertGreaterEqual(many, many_rises(floor, told))
        self.assertGreater(many_rises(floor, told), 0)
        shares = block_shares(floor, told, block)
        self.assertEqual(sum(number for _, number in shares), many)
        for piece, number in shares:
            self.assertIs(number > 0, can_finish(floor, tuple(sorted({*told, piece}))))
        self.assertEqual(share_of(floor, told, shares[0][0]), (shares[0][1], many))

    def test_in_each_rank(self):
        times = {kind: 0 for kind in KINDS}
        for floor in NARROW:
            for kind, block, told in each_clash(floor):
                self.check_none(floor, told, block)
                times[kind] += 1
        self.assertGreater(min(times.values()), 100, times)

    def test_clashing_or_not(self):
        times = {True: 0, False: 0}
        for floor in NARROW:
            draw = random.Random(f"{floor} near")
            some = 0
            for _ in range(6):
                for block in drawn_blocks(draw, floor):
                    told = tuple(sorted(drawn_near(draw, floor, block)))
                    fits = can_finish(floor, told)
                    # The greatest FLOORS take long where there is something to count.
                    if not fits:
                        self.check_none(floor, told, block)
                    elif min(floor) < 5 or some < 1:
                        self.check_some(floor, told, block)
                        some += 1
                    times[fits] += 1
        self.assertGreater(min(times.values()), 200, times)

    def test_some_of_two_layings(self):
        for floor in ((7, 7), (8, 7), (7, 8)):
            draw = random.Random(str(floor))
            one, two = drawn_laying(draw, floor), drawn_laying(draw, floor)
            for share in (0.1, 0.2, 0.3, 0.4):
                told = tuple(sorted({*[own for own in one if draw.random() < share],
                                     *[own for own in two if draw.random() < share]}))
                self.assertIs(many_layings(floor, told) > 0, can_finish(floor, told))
                self.assertIs(many_rises(floor, told) > 0, can_finish(floor, told))

    def test_nothing_is_counted(self):
        """Else TOLD that clash would take as long as the greatest numbers do."""
        for floor in ((7, 7), (8, 7), (7, 8)):
            for _, block, told in each_clash(floor):
                with mock.patch.object(fronts, "past_site", wraps=fronts.past_site) as past_site:
                    self.check_none(floor, told, block)
                    self.assertEqual([call for call in past_site.call_args_list if call.args[0] != {}], [])


class Beginnings(unittest.TestCase):
    def test_beside_can_finish(self):
        times = {True: 0, False: 0}
        for floor in NARROW:
            draw = random.Random(f"{floor} begin")
            for _ in range(12 if min(floor) < 5 else 4):
                blocks = own_blocks(floor)[:draw.randrange(1, 7)]
                row = tuple(draw.choice(own_four(floor, block)) for block in blocks)
                fits = can_finish(floor, tuple(sorted(row)))
                self.assertIs(how_many_begin(floor, row) > 0, fits)
                four = own_four(floor, own_blocks(floor)[len(row)]) if len(row) < len(own_blocks(floor)) else []
                coming = [own for own in four if can_finish(floor, tuple(sorted((*row, own))))]
                self.assertEqual(next_pieces(floor, row), tuple(coming))
                times[fits] += 1
        self.assertGreater(min(times.values()), 100, times)


class Demands(unittest.TestCase):
    def test_many(self):
        for floor in ((1, 1), (1, 8), (4, 3), (7, 7), (8, 7), (7, 8)):
            for _, _, told in each_clash(floor):
                for number in (0, 1, 2000):
                    demand = ("many", floor, told, number)
                    self.assertIs(is_so(demand), True)
                    self.assertEqual((paper_against(demand), reason_for(demand)), (None, ()))
                    self.assertIs(is_reason_for(demand, ()), True)
                    self.assertIs(is_paper_against(demand, ()), False)


if __name__ == "__main__":
    unittest.main()
