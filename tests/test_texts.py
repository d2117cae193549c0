"""Pictures and texts: point [21], with the words of point [4]."""

import itertools
import random
import unittest

from teefloors import errors, texts as module
from teefloors.layings import some_laying
from teefloors.texts import is_sheet, picture, read_picture, read_sheet, sheet_text
from tests.helpers import FLOORS, ODD, caught, check_raises, check_transcript, check_unfit, deep, listed, shown
from tests.own import GREAT, SMALL, drawn_laying, own_goal, own_layings
from tests.own_deeds import drawn_plan
from tests.test_signs import BAD_SIGNS
from tests.test_squares import LEFT, ODD_LAYINGS

EXAMPLES = r"""
>>> floor = (1, 1)
>>> one, two = ((0, 1, 0), (1, 3, 3), (2, 0, 1), (3, 2, 2)), ((0, 2, 0), (1, 0, 1), (2, 3, 3), (3, 1, 2))
>>> picture(floor, one), picture(floor, two), read_picture('>v\n^<\n') == (floor, one)
('>v\n^<\n', 'v<\n>^\n', True)
>>> sheet = ((2, 1), one[:2], (("square", ("dot", 0, 0)), ("square", ("inner", 1, 0)), ("pair", ((0, 0), (1, 0)))))
>>> sheet_text(sheet)
'floor 2 1\npiece 0 1 0\npiece 1 3 3\nsquare dot 0 0\nsquare inner 1 0\npair 0 0 1 0\n'
>>> read_sheet(sheet_text(sheet)) == sheet, read_sheet("floor 1 2 # no more"), is_sheet(((1, 1), (), ())), is_sheet(((1, 1), one[::-1], ()))
(True, ((1, 2), (), ()), True, False)
>>> read_picture(">v\n^^\n")
raises CanNot()
>>> read_picture(">v\n^\n")
raises BadText(line=1)
>>> read_sheet("floor 1 1\nsquare dot 0 0\npiece 0 1 0")
raises BadText(line=2)
"""

ONE = ((0, 1, 0), (1, 3, 3), (2, 0, 1), (3, 2, 2))
DEEDS = (("square", ("dot", 0, 0)), ("square", ("inner", 1, 0)), ("pair", ((0, 0), (1, 0))))
SHEET = ((2, 1), ONE[:2], DEEDS)
MOST = 10 ** 12 - 1


def own_picture(floor, laying):
    """For each BLOCK of a row, the northmost row first, the way to where its PIECE has one CELL."""
    ways = {}
    for piece in laying:
        block, goal = (piece[0] // 2, piece[1] // 2), own_goal(piece)
        ways[block] = {(1, 0): ">", (0, 1): "^", (-1, 0): "<", (0, -1): "v"}[goal[0] - block[0], goal[1] - block[1]]
    rows = ["".join(ways[i, j] for i in range(2 * floor[0])) for j in range(2 * floor[1])]
    return "\n".join(reversed(rows)) + "\n"


def own_fault(text):
    """The line that BadText() tells of a picture; None for one without a fault."""
    lines = text.split("\n")
    ended = lines[-1] == ""
    if ended:
        lines = lines[:-1]
    for at, line in enumerate(lines):
        if not line or len(line) % 2 or len(line) != len(lines[0]) or set(line) - set(">^<v"):
            return at
    if not ended:
        return len(lines) - 1
    if len(lines) % 2 or not lines:
        return len(lines)
    return None


def drawn_number(draw):
    return draw.choice((0, 1, 2, 7, 10, draw.randrange(100), draw.randrange(10 ** 6), MOST))


def drawn_sheet(draw):
    """A SHEET of any numbers."""
    some = [drawn_number(draw) for _ in range(40)]
    signed = [number * draw.choice((1, -1)) for number in some]
    pieces = {(draw.choice(signed), draw.choice(signed), draw.randrange(4)) for _ in range(draw.randrange(8))}
    plan = []
    for _ in range(draw.randrange(8)):
        i, j = min(draw.choice(some), MOST - 1), min(draw.choice(some), MOST - 1)
        plan.append(draw.choice([
            ("square", ("dot", i, j)), ("square", ("inner", i, j)), ("pair", ((i, j), (i + 1, j))),
            ("pair", ((i, j), (i, j + 1))),
        ]))
    return ((max(1, draw.choice(some)), max(1, draw.choice(some))), tuple(sorted(pieces)), tuple(plan))


def own_text(sheet):
    """The text of a SHEET, row by row."""
    floor, pieces, plan = sheet
    rows = ["floor %d %d" % floor] + ["piece %d %d %d" % piece for piece in pieces]
    for word, where in plan:
        rows.append("square %s %d %d" % where if word == "square" else "pair %d %d %d %d" % (*where[0], *where[1]))
    return "".join(row + "\n" for row in rows)


class Examples(unittest.TestCase):
    def test_examples(self):
        check_transcript(self, EXAMPLES, [errors, module])


class Pictures(unittest.TestCase):
    def check_picture(self, floor, laying):
        text = picture(floor, laying)
        self.assertEqual(text, own_picture(floor, laying))
        self.assertEqual(read_picture(text), (floor, laying))
        return text

    def test_there_and_back(self):
        for floor in SMALL:
            found = {self.check_picture(floor, laying) for laying in own_layings(floor)}
            self.assertEqual(len(found), len(own_layings(floor)))
        for floor in [*GREAT, *FLOORS]:
            self.check_picture(floor, drawn_laying(random.Random(str(floor)), floor))
        self.assertEqual(picture(laying=listed(ONE), floor=[1, 1]), ">v\n^<\n")
        self.assertEqual(read_picture(text=">v\n^<\n"), ((1, 1), ONE))

    def test_greater_than_the_bounds(self):
        floor = (3, 20)
        laying = some_laying(floor)
        self.assertEqual(read_picture(picture(floor, laying)), (floor, laying))

    def test_all_pictures_of_a_small_floor(self):
        for floor in ((1, 1), (2, 1), (1, 2)):
            known = {own_picture(floor, laying): laying for laying in own_layings(floor)}
            wide, high = 2 * floor[0], 2 * floor[1]
            draw = random.Random(str(floor))
            for told in itertools.product(">^<v", repeat=wide * high):
                if floor != (1, 1) and draw.randrange(97):
                    continue
                text = "".join("".join(told[at:at + wide]) + "\n" for at in range(0, wide * high, wide))
                if text in known:
                    self.assertEqual(read_picture(text), (floor, known[text]))
                else:
                    check_raises(self, "CanNot()", read_picture, text)

    def test_of_no_laying(self):
        for floor in GREAT:
            laying = drawn_laying(random.Random(str(floor)), floor)
            text = own_picture(floor, laying)
            for seed in range(8):
                draw = random.Random(seed)
                at = draw.choice([own for own, sign in enumerate(text) if sign != "\n"])
                other = draw.choice([sign for sign in ">^<v" if sign != text[at]])
                check_raises(self, "CanNot()", read_picture, text[:at] + other + text[at + 1:])
        for text in ("<<\n<<\n", ">>\n>>\n", "^^\n^^\n", "vv\nvv\n", "><\n><\n"):
            check_raises(self, "CanNot()", read_picture, text)

    def test_bad_text(self):
        told = {
            "": 0, "\n": 0, "\n\n": 0, ">v": 0, ">v\n": 1, ">v\n^<": 1, ">v\n^<\n\n": 2, ">v\n^<\n>v\n": 3,
            ">v\n^<\n>v": 2, ">\n^\n": 0, ">v\n^\n": 1, ">v\n^<v<\n": 1, ">v^<\n^<\n": 1, ">v\n\n^<\n": 1,
            "\n>v\n^<\n": 0, ">v\n^ \n": 1, ">v \n^< \n": 0, " >v\n^<\n": 0, ">v#\n^<\n": 0, ">V\n^<\n": 0, "a": 0,
            ">v\n^<\n>v\n^<\n>v\n": 5, ">vv\n^<\n": 0, ">v\n^<^\n": 1, ">v\n^<\n# no\n": 2, "><\n^x\n>": 1, "x\n\n": 0,
            ">v\n^<\n ": 2, ">v\n^<\n>": 2, "#\n": 0, ">v\n^<\n>vv<\n^": 2,
        }
        for text, line in told.items():
            check_raises(self, f"BadText(line={line})", read_picture, text)
            self.assertEqual(own_fault(text), line, repr(text))
        for sign in [*BAD_SIGNS, "#", "a", "0", "-", " "]:
            if sign not in ">^<v":
                check_raises(self, "BadText(line=1)", read_picture, ">v\n^" + sign + "\n")
                check_raises(self, "BadText(line=3)", read_picture, ">v\n^<\n>v\n" + sign + ">\nx")

    def test_bent_texts(self):
        faults = 0
        for seed in range(1500):
            draw = random.Random(seed)
            floor = draw.choice([(1, 1), (2, 1), (1, 2), (2, 2)])
            text = list(own_picture(floor, drawn_laying(draw, floor)))
            for _ in range(draw.randrange(1, 4)):
                at, sign = draw.randrange(len(text) + 1), draw.choice(">^<v\n\n #a")
                text[at:at + draw.randrange(2)] = draw.choice(([], [sign], [sign, sign]))
            text = "".join(text)
            line, error = own_fault(text), caught(read_picture, text)
            if line is not None:
                faults += 1
                check_raises(self, f"BadText(line={line})", read_picture, text)
            elif error is not None:
                check_raises(self, "CanNot()", read_picture, text)
            else:
                self.assertEqual(picture(*read_picture(text)), text)
        self.assertGreater(faults, 500)


class Sheets(unittest.TestCase):
    def test_there_and_back(self):
        for seed in range(300):
            sheet = drawn_sheet(random.Random(seed))
            text = sheet_text(sheet)
            self.assertEqual(text, own_text(sheet))
            self.assertEqual(read_sheet(text), sheet)
            self.assertIs(is_sheet(sheet), True)
            self.assertEqual(sheet_text(listed(sheet)), text)
            self.assertIs(is_sheet(listed(sheet)), False)
        self.assertEqual(sheet_text(sheet=SHEET), own_text(SHEET))
        self.assertEqual(read_sheet(text=own_text(SHEET)), SHEET)

    def test_of_layings_and_plans(self):
        for floor in [*SMALL, *GREAT]:
            draw = random.Random(str(floor))
            laying = drawn_laying(draw, floor)
            sheet = (floor, laying, drawn_plan(draw, floor, laying, 12)[0])
            self.assertEqual(read_sheet(sheet_text(sheet)), sheet)
        long = ((8, 8), some_laying((8, 8)), DEEDS[:1] * 2000)
        self.assertEqual(read_sheet(sheet_text(long)), long)

    def test_with_more_blanks_and_remarks(self):
        for seed in range(100):
            draw = random.Random(seed)
            sheet = drawn_sheet(draw)
            rows = []
            for row in own_text(sheet).split("\n"):
                rows.extend(draw.choice(([], [""], ["   "], ["# Rem. #ark", "#"])))
                blanks = draw.choice((" ", "   "))
                rows.append(blanks * draw.randrange(2) + row.replace(" ", blanks) + draw.choice(("", "  ", "#!", " # x")))
            self.assertEqual(read_sheet("\n".join(rows)), sheet)

    def test_faults_of_words(self):
        for sign in BAD_SIGNS:
            check_raises(self, "BadText(line=2)", read_sheet, f"floor 1 1\npiece # {sign}\npiece 0 {sign} 0\n{sign}")
            # A fault of the words, wherever it stands, is ahead of one of the rows.
            check_raises(self, "BadText(line=3)", read_sheet, f"\nno row\nfloor 0 0\n{sign}")

    def test_no_row(self):
        for text in ("", " ", "\n", "\n\n\n", "# floor 1 1", "  # x\n#\n"):
            check_raises(self, "BadText(line=0)", read_sheet, text)

    def test_rows_that_are_none(self):
        ahead = "floor 2 2\npiece 0 1 0\n"
        bad = [
            "floor", "floor 1", "floor 1 1 1", "floor 0 1", "floor 1 0", "floor -1 2", "floor 01 1", "floor 1 a",
            "floors 1 1", "floor 1 1000000000000", "1 1", "floor 1 -", "1", "floor floor 1 1", "-", "floor 1 1-",
        ]
        for row in bad:
            check_raises(self, "BadText(line=0)", read_sheet, row)
            check_raises(self, "BadText(line=2)", read_sheet, f"\n# x\n {row} # x\nfloor 1 1\n")
        bad = [
            "piece", "piece 1 1", "piece 1 1 1 1", "piece 1 1 4", "piece 1 1 -1", "piece 1 1 01", "piece -0 1 1",
            "piece 1 a 1", "pieces 1 1 1", "1 1 1", "square", "square dot", "square dot 1", "square dot 1 1 1",
            "square dot -1 0", "square dot 0 -1", "square inner 0 -1", "square inner -1 0", "square rim",
            "square rim 0 0", "square 0 0", "square dots 0 0", "square dot 00 0", "square dot a 0", "square 0 0 dot",
            "dot 0 0", "pair", "pair 0 0 1", "pair 0 0 1 0 0", "pair 0 0 0 0", "pair 1 0 0 0", "pair 0 1 0 0",
            "pair 0 0 1 1", "pair 0 0 2 0", "pair -1 0 0 0", "pair 0 -1 0 0", "pair 0 -1 1 -1", "pair 0 0 01 0",
            "pair 0 0 east", "square dot 0 0 pair 0 0 1 0", "square inner 1000000000000 0", "deed", "lay 0 0 0",
            "square dot dot 0 0", "pair dot 0 0 1 0", "pairs 0 0 1 0", "lay 0 0 1 0", "square 0 0 1 0", "0 0 1 0",
            "square inner", "square pair 0 0 1 0", "dot 0 0 1 0", "inner 0 0",
        ]
        for row in bad:
            check_raises(self, "BadText(line=2)", read_sheet, ahead + row)
            check_raises(self, "BadText(line=3)", read_sheet, ahead + f"\n{row}\npiece 5 5 0\n")
            check_raises(self, "BadText(line=4)", read_sheet, ahead + f"square dot 0 0\n\n{row}\n.".replace(".", "#."))

    def test_rows_that_can_not_stand_there(self):
        told = {
            "piece 0 1 0": 0, "piece 0 1 0\nfloor 1 1": 0, "square dot 0 0\nfloor 1 1": 0, "\npair 0 0 1 0": 1,
            "floor 1 1\nfloor 1 1": 1, "floor 1 1\npiece 0 1 0\nfloor 1 1": 2, "floor 1 1\nsquare dot 0 0\nfloor 1 1": 2,
            "floor 1 1\npiece 0 1 0\npiece 0 1 0": 2, "floor 1 1\npiece 0 1 0\n\npiece 0 0 3": 3,
            "floor 1 1\npiece 5 1 0\npiece -5 1 0": 2, "floor 1 1\npiece 0 1 2\npiece 0 1 1": 2,
            "floor 1 1\npair 0 0 1 0\npiece 0 1 0": 2, "floor 1 1\npiece 0 1 0\nsquare inner 0 0\npiece 3 1 0": 3,
            "floor 1 1 piece 0 1 0": 0, "floor 1\n1": 0, "floor 1 1\npiece 0 1\n0": 1,
        }
        for text, line in told.items():
            check_raises(self, f"BadText(line={line})", read_sheet, text)
        self.assertEqual(read_sheet("floor 1 1\npiece -1 0 0\npiece 0 -9 0\nsquare dot 7 7\nsquare dot 7 7"),
                         ((1, 1), ((-1, 0, 0), (0, -9, 0)), (("square", ("dot", 7, 7)),) * 2))

    def test_is_sheet_of_any_value(self):
        things = [
            *ODD, (), [], (SHEET,), SHEET[:2], (*SHEET, ()), ((2, 0), (), ()), ((2, True), (), ()), ([2, 1], (), ()),
            ((2, 1), [], ()), ((2, 1), (), []), ((2, 1), (ONE[1], ONE[0]), ()), ((2, 1), (ONE[0], ONE[0]), ()),
            ((2, 1), ((0, 1, 4),), ()), ((2, 1), ((0, 1, True),), ()), ((2, 1), ([0, 1, 0],), ()), ((2, 1), ONE[0], ()),
            ((2, 1), ((0, 1),), ()), ((2, 1), None, ()), ((2, 1), (), None), ((2, 1), (), DEEDS[0]), "abc",
            ((2, 1), (), (("square", ("rim",)),)), ((2, 1), (), (("square", ("dot", -1, 0)),)),
            ((2, 1), (), (("square", ("inner", 0, -1)),)), ((2, 1), (), (("square", ("dot", 0)),)),
            ((2, 1), (), (("square", ["dot", 0, 0]),)), ((2, 1), (), (("square", ("dot", 0, True)),)),
            ((2, 1), (), (["square", ("dot", 0, 0)],)), ((2, 1), (), (("pair", ("dot", 0, 0)),)),
            ((2, 1), (), (("square", ((0, 0), (1, 0))),)), ((2, 1), (), (("pair", ((1, 0), (0, 0))),)),
            ((2, 1), (), (("pair", ((0, 0), (1, 1))),)), ((2, 1), (), (("pair", ((-1, 0), (0, 0))),)),
            ((2, 1), (), (("pair", ((0, -1), (1, -1))),)), ((2, 1), (), (("pair", [(0, 0), (1, 0)]),)),
            ((2, 1), (), (("pair", ((0, 0), (1, False))),)), ((2, 1), (), (("pairs", ((0, 0), (1, 0))),)),
            ((2, 1), (), (DEEDS[0], None)), ((2, 1), (), (deep(15),)), (deep(15), (), ()), ((2, 1), (deep(15),), ()),
            ((2, 1), (), (("square", deep(15)),)), ((2, 1), (), (("pair", deep(15)),)), (None, None, None),
        ]
        for thing in things:
            self.assertIs(is_sheet(thing), False, shown(thing))
        for thing in (SHEET, ((1, 1), (), ()), ((10 ** 20, 1), ((-10 ** 30, 10 ** 30, 3),), ()),
                      ((1, 1), (), (("square", ("inner", 10 ** 30, 0)), ("pair", ((10 ** 30, 5), (10 ** 30, 6))))),
                      ((1, 1), tuple((x, 0, 0) for x in range(3000)), DEEDS * 3000)):
            self.assertIs(is_sheet(thing=thing), True)


class Refusals(unittest.TestCase):
    def test_pictures(self):
        check_unfit(self, picture, [None, LEFT], 0, [*ODD, (0, 1), (1, 0), (), [], (1, 1, 1), 1, (2, 1)])
        check_unfit(self, picture, [(1, 2), None], 1, ODD_LAYINGS)

    def test_sheets(self):
        check_unfit(self, sheet_text, [None], 0, [
            *ODD, (), [], SHEET[:2], ((2, 0), (), ()), [[2, 1], [], None], [[2, 1], [[0, 1, 4]], []],
            [[2, 1], [[0, 1, 0], [0, 1, 0]], []], [[2, 1], [], [["square", ["rim"]]]], [[2, 1], [], [["pair", [0, 0]]]],
            [[2, 1], [], [["pair", [[1, 0], [0, 0]]]]], [[2, 1], [], [["square", ["dot", 0, -1]]]], deep(18),
        ])


if __name__ == "__main__":
    unittest.main()
