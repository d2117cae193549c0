"""What goes across the points: points [1], [2] and [3]."""

import random
import unittest

from teefloors import counts, errors, numbered
from teefloors.counts import block_shares, height_counts, many_layings, many_rises
from teefloors.desk import Desk
from teefloors.errors import BadText, Broken, CanNot, NoBlock, NoCell, NoFace, NoTie, NothingDone, TooMany, Unfit
from teefloors.fewest import fewest, is_plan, plan
from teefloors.finished import can_finish, finished, sure_pieces, why_not
from teefloors.floors import block_of, site
from teefloors.goings import all_with_lot
from teefloors.judge import first_fallen, is_paper_against, is_reason_for, is_so, paper_against, reason_for
from teefloors.layings import all_layings
from teefloors.middles import middle, sum_to
from teefloors.mirrored import floor_moved, pieces_moved
from teefloors.numbered import laying_at, laying_number, layings_from
from teefloors.rises import book_of, laying_of_rise, layings_of, rise_of
from teefloors.rounds import how_many_rounds
from teefloors.seams import nearest_parted, parted_at, put_beside, seams, squares_to_part
from teefloors.signs import words
from teefloors.squares import behind, is_done_by, undone
from teefloors.sums import sum_by_lots, sum_by_rises, sum_by_ties
from teefloors.texts import picture, read_picture, read_sheet, sheet_text
from teefloors.ties import lot_of, lots
from tests.helpers import FEW_LAYINGS, caught, check_raises, listed
from tests.own import GREAT, SMALL, drawn_laying, own_flat, own_rises, own_ties, rise_with_flat
from tests.own_deeds import drawn_plan
from tests.test_interface import FUNCTIONS
from tests.test_told import own_pieces


# What lists or counts too much of a FLOOR of eight by eight.
LISTS = {"all_layings", "unlike_layings", "lots", "all_rises", "how_many_rises", "all_with_lot", "sum_by_lots", "lot_table",
         "lots_with", "sum_by_rises", "rise_table", "flattest", "sum_by_ties", "even_chance", "rises_between", "layings_of"}
# What asks for more than any value of a kind, or for no FLOOR.
LEFT_OUT = {"plain_layings", "is_book", "laying_of_rise", "are_goings", "laying_of_goings", "turns_of", "done", "laid_anew",
            "deed_between", "behind", "layings_along", "piece_to", "ring_bound", "bound", "words", "text_of", "number_of",
            "word_of", "read_picture", "sheet_text", "read_sheet", "is_demand", "is_so", "paper_against",
            "is_paper_against", "reason_for", "is_reason_for", "first_fallen", "parted_at", "raised", "lowered",
            "falling_ring", "why_not"}


def line_of(deed):
    """A DEED as a line for a Desk."""
    word, where = deed
    if word == "square":
        return "square %s %d %d" % where
    (i, j), (k, _) = where
    return f"pair {i} {j} {'east' if k > i else 'north'}"


def drawn_two(many):
    for floor in [*SMALL, *GREAT]:
        for seed in range(many):
            draw = random.Random(f"{floor} {seed} across")
            yield draw, floor, drawn_laying(draw, floor), drawn_laying(draw, floor)


class Overview(unittest.TestCase):
    """Point [1]."""

    def test_rises_with_books_and_lots_with_goings(self):
        for floor in FEW_LAYINGS:
            every = all_layings(floor)
            by_rises = [laying for rise in own_rises(floor) for laying in layings_of(floor, rise)]
            by_lots = [laying for lot in lots(floor) for laying in all_with_lot(floor, lot)]
            self.assertEqual((sorted(by_rises), sorted(by_lots)), (every, every))
            self.assertEqual({many_layings(floor, ()), sum_by_lots(floor), sum_by_rises(floor), sum_by_ties(floor)},
                             {len(every)})
            self.assertEqual(many_rises(floor, ()), len(own_rises(floor)))
            for laying in every[::1 + len(every) // 20]:
                self.assertEqual(laying_of_rise(floor, rise_of(floor, laying), book_of(floor, laying)), laying)

    def test_fewest_squares(self):
        for _, floor, laying, other in drawn_two(3):
            far = fewest(floor, laying, other)
            for number, stands in ((far, True), (far - 1, False), (far + 1, True)):
                if number >= 0:
                    self.assertIs(is_so(("fewest", floor, laying, other, number)), stands)
            told = plan(floor, laying, other)
            self.assertIs(is_reason_for(("fewest", floor, laying, other, far), told), True)
            self.assertEqual(reason_for(("fewest", floor, laying, other, far)), told)

    def test_told_pieces(self):
        for draw, floor, laying, other in drawn_two(4):
            told = tuple(sorted({own for own in (*laying, *other) if draw.random() < 0.15}))
            demand = ("finish", floor, told)
            if can_finish(floor, told):
                self.assertIs(is_reason_for(demand, finished(floor, told)), True)
                for piece in sure_pieces(floor, told)[:4]:
                    self.assertIs(is_so(("sure", floor, told, piece)), True)
            else:
                self.assertIs(is_paper_against(demand, why_not(floor, told)), True)


class There(unittest.TestCase):
    def test_pictures_numbers_and_parts(self):
        for draw, floor, laying, _ in drawn_two(2):
            self.assertEqual(read_picture(picture(floor, laying)), (floor, laying))
            if min(floor) < 8:
                self.assertEqual(laying_at(floor, laying_number(floor, laying)), laying)
            lines = [(way, k) for way in (0, 1) for k in range(1, floor[way])]
            for line in lines[:3]:
                parted = nearest_parted(floor, laying, line)
                self.assertIn(line, seams(floor, parted))
                self.assertEqual(fewest(floor, laying, parted), squares_to_part(floor, laying, line))
                one, two = parted_at(floor, parted, line)
                sizes = [(line[1], floor[1]), (floor[0] - line[1], floor[1])] if line[0] == 0 else [
                    (floor[0], line[1]), (floor[0], floor[1] - line[1])]
                self.assertEqual(put_beside(sizes[0], one, sizes[1], two, line[0]), parted)
            moved = draw.randrange(8)
            there = pieces_moved(floor, laying, moved)
            self.assertEqual(read_picture(picture(floor_moved(floor, moved), there)), (floor_moved(floor, moved), there))

    def test_sheets_with_plans(self):
        for draw, floor, laying, other in drawn_two(2):
            for told in (plan(floor, laying, other), drawn_plan(draw, floor, laying, 15)[0]):
                text = sheet_text((floor, laying, told))
                read_floor, pieces, deeds = read_sheet(text.replace("\n", " # a remark\n\n"))
                self.assertEqual((read_floor, pieces, deeds), (floor, laying, told))
                self.assertIs(is_done_by(floor, pieces, deeds), True)
                self.assertEqual(behind(floor, behind(floor, pieces, deeds), undone(floor, deeds)), laying)
                self.assertEqual(len(words(text)), 3 + 4 * len(laying) + sum(4 + (own[0] == "pair") for own in told))
            self.assertIs(is_plan(floor, laying, other, read_sheet(sheet_text((floor, laying, plan(
                floor, laying, other))))[2]), True)

    def test_plans_on_a_desk(self):
        for _, floor, laying, other in drawn_two(2):
            desk, told, done = Desk(floor, laying), plan(floor, laying, other), 0
            for deed in told:
                done += deed[0] == "square"
                self.assertEqual(desk.say(line_of(deed) + "\nfar\nrounds")[:2], ("done", str(done)))
            self.assertEqual(desk.laying(), other)
            self.assertEqual(desk.say("far\nrounds"), (str(fewest(floor, laying, other)),
                                                       str(how_many_rounds(floor, lot_of(floor, other)))))
            if told:
                again = Desk(floor, laying)
                self.assertEqual(again.say("\n".join(map(line_of, told))), ("done",) * len(told))
                self.assertTrue(again == desk)
                self.assertEqual((again.undo(), again.laying()), (0, laying))
                self.assertEqual(again.say("\n".join(map(line_of, told + undone(floor, told)))), ("done",) * 2 * len(told))
                self.assertEqual(again.laying(), laying)

    def test_middles(self):
        for draw, floor, laying, other in drawn_two(2):
            three = (laying, other, drawn_laying(draw, floor))
            one = middle(floor, three)
            self.assertEqual(sum_to(floor, one, three), sum(fewest(floor, one, own) for own in three))
            self.assertEqual(2 * sum_to(floor, one, three), fewest(floor, three[0], three[1])
                             + fewest(floor, three[1], three[2]) + fewest(floor, three[2], three[0]))


class JustSoMany(unittest.TestCase):
    def test_demands(self):
        """Each with a number stands by just so many, and not by one fewer."""
        for draw, floor, laying, other in drawn_two(2):
            lot = lot_of(floor, laying)
            told = list(laying)
            # The PIECES of the last BLOCKS are left open, as long as there are not too many.
            while min(floor) < 8 and told and many_layings(floor, told) <= 60:
                told.pop()
            told = laying[:len(told) + 1]
            demands = [("fewest", floor, laying, other, fewest(floor, laying, other)),
                       ("rounds", floor, lot, how_many_rounds(floor, lot))]
            if min(floor) < 8:
                demands.append(("many", floor, told, many_layings(floor, told)))
            for demand in demands:
                self.assertIs(is_so(demand), True)
                self.assertIs(is_reason_for(demand, reason_for(demand)), True)
                if demand[-1] > 0:
                    less = (*demand[:-1], demand[-1] - 1)
                    self.assertIs(is_so(less), False)
                    self.assertIs(is_paper_against(less, paper_against(less)), True)
                    self.assertEqual(first_fallen((demand, less, demand)), 1)
            self.assertIsNone(first_fallen(demands))


class Errors(unittest.TestCase):
    def test_made_by_hand(self):
        for kind, name, value in ((NoBlock, "block", [1, [2]]), (NoCell, "cell", [[0], 1]), (NoTie, "tie", [[0, 0], [0, 1]]),
                                  (NoFace, "face", ["dot", 0, [1]]), (NoBlock, "block", (1, 2)), (NoFace, "face", ("rim",)),
                                  (BadText, "line", 3), (Broken, "place", 0)):
            error = kind(value)
            self.assertEqual(vars(error), {name: value})
            self.assertIs(type(getattr(error, name)), type(value))
            self.assertEqual(vars(kind(**{name: value})), {name: value})
            if isinstance(value, list):
                held = listed(value)
                value.append(7)
                self.assertEqual(getattr(error, name), held)
        for kind in (NothingDone, CanNot, TooMany, Unfit):
            self.assertEqual(vars(kind()), {})

    def test_classes(self):
        for name in ("NoBlock", "NoCell", "NoFace", "NoTie", "NothingDone"):
            self.assertEqual(getattr(errors, name).__bases__, (LookupError,))
        for name in ("BadText", "Broken", "CanNot", "TooMany", "Unfit"):
            self.assertEqual(getattr(errors, name).__bases__, (ValueError,))

    def test_raised_ones_have_tuples(self):
        check_raises(self, "NoBlock(block=(9, 0))", block_shares, [2, 2], [], [9, 0])
        check_raises(self, "NoFace(face=('dot', 2, 0))", height_counts, [2, 2], ["dot", 2, 0])
        check_raises(self, "NoTie(tie=((0, 0), (2, 0)))", site, [2, 2], [[0, 0], [2, 0]])
        check_raises(self, "NoCell(cell=(8, 0))", block_of, [2, 2], [8, 0])


class AtTheBounds(unittest.TestCase):
    """Nothing is refused at the bounds of [3], but by TooMany() where a point says so."""

    def good_calls(self, floor):
        """For each name of an argument a value of this FLOOR."""
        draw = random.Random(str(floor))
        laying, other = drawn_laying(draw, floor), drawn_laying(draw, floor)
        rise = rise_with_flat(floor, 11, 112)
        return {
            "floor": floor, "laying": laying, "other_floor": floor, "told": laying, "rise": rise, "lot": tuple(own_ties(floor)),
            "book": own_flat(floor, rise), "layings": (laying, other, other) * 3, "cell": (4 * floor[0] - 1, 0),
            "block": (2 * floor[0] - 1, 2 * floor[1] - 1), "face": ("dot", floor[0] - 1, 0), "tie": own_ties(floor)[-1],
            "piece": laying[-1], "pieces": laying, "line": (0, floor[0] - 1), "way": 1, "number": 3, "thing": laying,
            "plan": tuple(("square", ("dot", i % floor[0], 0)) for i in range(2000)), "one": 7, "second": 6, "many": 100,
            "deed": ("square", ("dot", 0, 0)),
        }, other, rise

    def test_each_function(self):
        for floor in ((8, 8), (8, 7), (7, 8)):
            values, other, rise = self.good_calls(floor)
            for module, functions in FUNCTIONS.items():
                narrow = module in (counts, numbered)
                for name, arguments in functions.items():
                    names = arguments.split()
                    if name in LEFT_OUT or (floor != (8, 8) and not narrow):
                        continue
                    named = {own: values[own] for own in names if own != "other"}
                    if "other" in names:
                        named["other"] = {"lot": (), "rise": rise}.get(names[1], other)
                    if name in ("how_many_begin", "next_pieces"):
                        named["pieces"] = ()
                    with self.subTest(name=name, floor=floor):
                        error = caught(getattr(module, name), **named)
                        if floor == (8, 8) and (name in LISTS or narrow and name != "block_row"):
                            self.assertIsInstance(error, TooMany)
                        else:
                            self.assertIsNone(error)

    def test_plans_of_2000_and_256_told(self):
        floor = (8, 8)
        laying = drawn_laying(random.Random(8), floor)
        way, other = drawn_plan(random.Random(9), floor, laying, 2000)
        self.assertEqual(behind(floor, laying, way), other)
        self.assertEqual(read_sheet(sheet_text((floor, laying, way))), (floor, laying, way))
        self.assertIs(is_reason_for(("fewest", floor, laying, other, 2000), way), True)
        self.assertEqual(finished(floor, laying), laying)
        self.assertIs(is_so(("finish", floor, tuple(own_pieces(floor))[:256])), False)
        self.assertEqual(middle(floor, [laying, other] * 4 + [laying]), laying)

    def test_numbers(self):
        self.assertEqual(len(layings_from((7, 7), 10 ** 30, 100)), 100)
        check_raises(self, "CanNot()", laying_at, (1, 1), 10 ** 30)
        self.assertIs(is_so(("rounds", (8, 8), (), 10 ** 6)), True)


if __name__ == "__main__":
    unittest.main()
