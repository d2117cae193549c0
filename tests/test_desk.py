"""The desk: point [25]."""

import inspect
import random
import unittest

from teefloors import desk as module
from teefloors import errors
from teefloors.desk import Desk
from teefloors.fewest import plan
from teefloors.layings import some_laying
from tests.helpers import FLOORS, ODD, check_raises, check_transcript, check_unfit, listed
from tests.own import GREAT, SMALL, drawn_laying, own_faces, own_heights, own_lot, own_rounds, own_ties
from tests.own_deeds import by_blocks, own_anew, own_deeds
from tests.test_fewest import extremes
from tests.test_squares import LEFT, LONG, ODD_LAYINGS

EXAMPLES = r"""
>>> low = ((0, 1, 0), (1, 3, 3), (2, 0, 1), (3, 2, 1), (4, 1, 3), (5, 3, 3), (6, 0, 1), (7, 2, 2))
>>> desk = Desk((2, 1), low)
>>> desk.say("squares\npairs\nhigh dot 0 0\nrounds\nfar\nsquare dot 0 0\nsquare inner 0 0\npair 0 0 north")
('none', '0 0 east', '-1', '1', '0', 'no square', 'no face', 'no tie')
>>> desk.say("pair 0 0 east\nsquares\nsquare dot 1 0\nrounds\nfar\nsquare dot 0 0\nfar\npairs")
('done', 'dot 0 0, dot 1 0', 'done', '2', '1', 'done', '2', '0 0 east')
>>> desk.laying()[:4], desk.undo(), desk.laying() == low, desk.redo(), desk.say("high dot 1 0")
(((0, 2, 0), (1, 0, 1), (2, 3, 3), (3, 1, 2)), 0, True, 1, ('1',))
>>> desk.say("far\nsquare dot 0 00")
raises BadText(line=1)
>>> other = desk.twin()
>>> other.say("pair 0 0 east"), other == desk, other.undo(), other == desk
(('done',), False, 1, True)
>>> Desk((1, 1), low)
raises Unfit()
"""

METHODS = {"say": ["text"], "floor": [], "laying": [], "first": [], "undo": [], "redo": [], "twin": []}

# Lines of which none is one of the table.
BAD_LINES = [
    "", " ", "square", "square ", " squares", "squares ", "squares  ", "Squares", "square dot 0", "square dot 0 0 0",
    "square dot  0 0", "square  dot 0 0", " square dot 0 0", "square dot 0 0 ", "square dot 00 0", "square dot 0 01",
    "square dot -1 0", "square dot -0 0", "square dot 0 1000000", "square dot a 0", "square dots 0 0", "square 0 0",
    "square rim", "square rim 0 0", "square Dot 0 0", "square 0 0 east", "square\tdot 0 0", "square dot 0, 0", "high",
    "high rim", "high dot 0", "high dot 0 0 east", "high inner 0 -1", "pair", "pair 0 0", "pair 0 0 east north",
    "pair 0 0 west", "pair 0 0 south", "pair 0 0 East", "pair 00 0 east", "pair 0 1000000 north", "pair -1 0 east",
    "pair dot 0 0", "pair 0 0 1 0", "pair 0 east", "pair 0 0  east", "squares dot 0 0", "rounds 1", "far 0", "round",
    "pairs 0 0 east", "undo", "#", "far # no", "squares,", "0", "none", "done", "square dot 0 0#", "square inner +1 0",
    "square dot 0 0x1", "square dot 1e1 0", "high dot 0 0.", "~", "square dot", "pair east", "pair 0 0 ", "far far",
]
UNDONE = "squares\npairs\nrounds\nfar\nhigh dot 0 0\nsquare inner 999999 0\npair 0 999999 east"


def face_word(face):
    return "%s %d %d" % face


def tie_word(tie):
    (i, j), (k, _) = tie
    return f"{i} {j} {'east' if k > i else 'north'}"


class OwnDesk:
    """The tests' own desk: LAYINGS kept in a row, with the place where one is."""

    def __init__(self, floor, laying):
        self.floor, self.row, self.at = floor, [laying], 0

    def now(self):
        return self.row[self.at]

    def answer(self, line, laying):
        """The answer to a line, and the LAYING behind it."""
        word, *rest = line.split(" ")
        deeds = own_deeds(self.floor, laying)
        if word in ("squares", "pairs"):
            told = sorted(where for own, where in deeds if own == word[:-1])
            told = [face_word(own) if word == "squares" else tie_word(own) for own in told]
            return ", ".join(told) or "none", laying
        if word == "rounds":
            return str(len(own_rounds(self.floor, own_lot(laying)))), laying
        heights = own_heights(self.floor, laying)
        if word == "far":
            first = own_heights(self.floor, self.row[0])
            return str(sum(abs(heights[face] - first[face]) for face in heights) // 2), laying
        if word == "pair":
            i, j = int(rest[0]), int(rest[1])
            where = ((i, j), (i + 1, j) if rest[2] == "east" else (i, j + 1))
            known = where in own_ties(self.floor)
        else:
            where = (rest[0], int(rest[1]), int(rest[2]))
            known = where in own_faces(self.floor)
        if not known:
            return "no tie" if word == "pair" else "no face", laying
        if word == "high":
            return str(heights[where]), laying
        if (word, where) not in deeds:
            return "no " + word, laying
        return "done", deeds[word, where]

    def say(self, text):
        laying, answers = self.now(), []
        for line in text.split("\n"):
            answer, laying = self.answer(line, laying)
            answers.append(answer)
        if "done" in answers:
            self.row, self.at = [*self.row[:self.at + 1], laying], self.at + 1
        return tuple(answers)

    def undo(self):
        self.at -= 1
        return self.at

    def redo(self):
        self.at += 1
        return self.at


def drawn_line(draw, floor):
    word = draw.choice(("square", "square", "square", "pair", "pair", "high", "squares", "pairs", "rounds", "far"))
    i, j = draw.randrange(floor[0] + 1), draw.randrange(floor[1] + 1)
    if draw.random() < 0.05:
        i = draw.choice((10, 999999))
    if word in ("square", "high"):
        return f"{word} {draw.choice(('dot', 'inner'))} {i} {j}"
    return f"pair {i} {j} {draw.choice(('east', 'north'))}" if word == "pair" else word


class Examples(unittest.TestCase):
    def test_examples(self):
        check_transcript(self, EXAMPLES, [errors, module])


class Saying(unittest.TestCase):
    def test_each_answer(self):
        """Each line of the table with each of its answers, at a LAYING of two rounds side by side."""
        desk = Desk(LONG, LEFT)
        told = {
            "square dot 0 0": "done", "square dot 0 1": "done", "square dot 0 2": "no face", "square inner 0 0": "no face",
            "square dot 1 0": "no face", "pair 0 0 north": "done", "pair 0 0 east": "no tie", "pair 0 1 north": "no tie",
            "high dot 0 0": "-1", "high dot 0 1": "-1", "high dot 0 2": "no face", "high inner 0 0": "no face",
            "squares": "dot 0 0, dot 0 1", "pairs": "0 0 north", "rounds": "2", "far": "0", "pair 999999 0 east": "no tie",
        }
        for line, answer in told.items():
            again = desk.twin()
            self.assertEqual(again.say(line), (answer,), line)
            self.assertIs(again == desk, answer != "done")
        desk.say("pair 0 0 north")
        self.assertEqual(desk.say("squares\nsquare dot 0 0\npairs\nrounds\nfar"), ("none", "no square", "0 0 north", "1", "0"))
        desk.say("pair 0 0 north\nsquare dot 0 0")
        self.assertEqual(desk.say("pairs\npair 0 0 north\nfar\nhigh dot 0 0"), ("none", "no pair", "1", "1"))

    def test_drawn_lines(self):
        for floor in [*SMALL, *GREAT]:
            for seed in range(3 if floor in SMALL else 1):
                draw = random.Random(f"{floor} {seed} desk")
                laying = drawn_laying(draw, floor)
                desk, own = Desk(floor, laying), OwnDesk(floor, laying)
                for _ in range(25 if floor in SMALL else 4):
                    text = "\n".join(drawn_line(draw, floor) for _ in range(draw.choice((1, 1, 2, 5))))
                    self.assertEqual(desk.say(text), own.say(text))
                    self.assertEqual(desk.laying(), own.now())
                self.assertEqual((desk.floor(), desk.first()), (floor, laying))

    def test_ties_and_faces_ascending(self):
        desk = Desk((2, 2), some_laying((2, 2)))
        self.assertEqual(desk.say("pairs"), ("0 0 north, 0 0 east, 0 1 east, 1 0 north",))
        self.assertEqual(desk.say("squares"), ("dot 0 0, dot 0 1, dot 1 0, dot 1 1",))
        desk.say("\n".join(["pair 0 0 north", "pair 0 0 east", "pair 0 1 east", "pair 1 0 north"]))
        self.assertEqual(desk.say("squares\nrounds\nhigh inner 0 0"), ("inner 0 0", "2", "0"))
        self.assertEqual(desk.say("square inner 0 0\nhigh inner 0 0\npairs\nfar"), ("done", "2", "none", "1"))

    def test_a_plan_walked(self):
        for floor in [*SMALL, *GREAT]:
            low, high = extremes(floor)
            desk, squares = Desk(floor, low), 0
            for word, where in plan(floor, low, high):
                squares += word == "square"
                line = "square " + face_word(where) if word == "square" else "pair " + tie_word(where)
                self.assertEqual(desk.say(line + "\nfar"), ("done", str(squares)))
            self.assertEqual(desk.laying(), high)
            while desk.laying() != low:
                desk.undo()
            self.assertEqual(desk.say("far"), ("0",))

    def test_long_texts(self):
        desk = Desk(LONG, LEFT)
        self.assertEqual(desk.say("\n".join(["square dot 0 0"] * 3000)), ("done",) * 3000)
        self.assertEqual((desk.laying(), desk.undo()), (LEFT, 0))
        self.assertEqual(desk.say(text="far"), ("0",))


class BadText(unittest.TestCase):
    def test_bad_lines(self):
        for floor, laying in ((LONG, LEFT), ((8, 8), some_laying((8, 8)))):
            desk = Desk(floor, laying)
            desk.say("square dot 0 0")
            desk.undo()
            like = desk.twin()
            for line in BAD_LINES:
                check_raises(self, "BadText(line=0)", desk.say, line)
                check_raises(self, "BadText(line=2)", desk.say, f"square dot 0 0\npair 0 0 north\n{line}\n?\n{line}")
                check_raises(self, "BadText(line=1)", desk.say, text=f"far\n{line}\nfar")
                self.assertTrue(desk == like)
            # Nothing has been done, and what was taken back can still be done once more.
            check_raises(self, "NothingDone()", desk.undo)
            self.assertEqual(desk.redo(), 1)

    def test_line_breaks(self):
        desk = Desk(LONG, LEFT)
        for text, line in {"": 0, "\n": 0, "far\n": 1, "far\n\nfar": 1, "\nfar": 0, "far\nfar\n": 2}.items():
            check_raises(self, f"BadText(line={line})", desk.say, text)

    def test_each_sign(self):
        desk = Desk(LONG, LEFT)
        for code in range(32, 127):
            for text in ("far" + chr(code), chr(code) + "far", "squares" + chr(code) + "far", f"pair 0 0{chr(code)}east"):
                if text != "pair 0 0 east":
                    check_raises(self, "BadText(line=1)", desk.say, "far\n" + text)

    def test_numbers(self):
        desk = Desk(LONG, LEFT)
        for word in ("0", "1", "9", "10", "100000", "999999"):
            answer = "done" if word in ("0", "1") else "no face"
            self.assertEqual(desk.twin().say(f"square dot 0 {word}"), (answer,))
        for word in ("1000000", "0000001", "00", "01", "-1", "-0", "1-", "", "a", "1a", "1.", "1_0"):
            for line in (f"square dot 0 {word}", f"high inner {word} 0", f"pair {word} 0 east", f"pair 0 {word} north"):
                check_raises(self, "BadText(line=0)", desk.say, line)


class TakenBack(unittest.TestCase):
    def test_drawn_rows(self):
        for floor in [*SMALL, (3, 3)]:
            for seed in range(4):
                draw = random.Random(f"{floor} {seed} undo")
                laying = drawn_laying(draw, floor)
                pairs = [(Desk(floor, laying), OwnDesk(floor, laying))]
                for _ in range(60):
                    desk, own = draw.choice(pairs)
                    what = draw.choice(("say", "say", "undo", "undo", "redo", "twin"))
                    if what == "say":
                        text = "\n".join(drawn_line(draw, floor) for _ in range(draw.choice((1, 1, 3))))
                        self.assertEqual(desk.say(text), own.say(text))
                    elif what == "twin" and len(pairs) < 5:
                        other = OwnDesk(floor, laying)
                        other.row, other.at = list(own.row), own.at
                        pairs.append((desk.twin(), other))
                    elif what in ("undo", "redo"):
                        room = own.at if what == "undo" else len(own.row) - 1 - own.at
                        if room:
                            self.assertEqual(getattr(desk, what)(), getattr(own, what)())
                        else:
                            check_raises(self, "NothingDone()", getattr(desk, what))
                    for one, like in pairs:
                        self.assertEqual(one.laying(), like.now())
                    for one, like in pairs:
                        for two, other in pairs:
                            self.assertIs(one == two, like.now() == other.now())
                            self.assertIs(one != two, like.now() != other.now())

    def test_a_say_is_taken_back_whole(self):
        desk = Desk(LONG, LEFT)
        desk.say("square dot 0 0\nsquare dot 0 1\npair 0 0 north")
        desk.say("high dot 0 0\nsquare dot 0 0")
        desk.say("pair 0 0 north\npair 0 0 north")
        self.assertEqual([desk.undo(), desk.undo()], [1, 0])
        self.assertEqual(desk.laying(), LEFT)
        check_raises(self, "NothingDone()", desk.undo)
        self.assertEqual((desk.laying(), desk.redo()), (LEFT, 1))
        desk.say(UNDONE)
        self.assertEqual(desk.redo(), 2)
        desk.undo()
        # What is not answered by "done" ends nothing, what is ends what could be done once more.
        desk.say("pair 0 0 north")
        check_raises(self, "NothingDone()", desk.redo)
        self.assertEqual(desk.undo(), 1)

    def test_done_without_a_change(self):
        """Two SQUARES that lead back are done, too."""
        desk = Desk(LONG, LEFT)
        self.assertEqual(desk.say("square dot 0 0\nsquare dot 0 0"), ("done", "done"))
        self.assertEqual((desk.laying(), desk.undo(), desk.laying(), desk.redo()), (LEFT, 0, LEFT, 1))

    def test_twins(self):
        desk = Desk(LONG, LEFT)
        desk.say("square dot 0 0")
        desk.say("square dot 0 1")
        desk.undo()
        other = desk.twin()
        self.assertIsInstance(other, Desk)
        self.assertIsNot(other, desk)
        self.assertEqual((other.first(), other.floor(), other.laying()), (LEFT, LONG, desk.laying()))
        self.assertEqual((other.redo(), other.undo(), other.undo(), other.redo()), (2, 1, 0, 1))
        other.undo()
        self.assertEqual((desk.redo(), desk.undo(), desk.undo()), (2, 1, 0))
        check_raises(self, "NothingDone()", other.undo)


class Equal(unittest.TestCase):
    def test_equal(self):
        desk, other = Desk(LONG, LEFT), Desk(listed(LONG), listed(LEFT))
        self.assertTrue(desk == other and not desk != other)
        other.say("square dot 0 0")
        self.assertTrue(desk != other and not desk == other)
        # What can be taken back does not matter, the first LAYING does.
        other.say("square dot 0 0")
        self.assertTrue(desk == other)
        other.say("square dot 0 0")
        late = Desk(LONG, other.laying())
        self.assertEqual((late.laying(), late == other, late != other), (other.laying(), False, True))
        for value in (None, 1, "desk", LEFT, (LONG, LEFT, LEFT), [], OwnDesk(LONG, LEFT)):
            self.assertIs(desk == value, False)
            self.assertIs(desk != value, True)


class Interface(unittest.TestCase):
    def test_methods(self):
        self.assertEqual((Desk.__module__, Desk.__bases__), ("teefloors.desk", (object,)))
        self.assertEqual(list(inspect.signature(Desk).parameters), ["floor", "laying"])
        for name, arguments in METHODS.items():
            self.assertIn(name, vars(Desk))
            self.assertEqual(list(inspect.signature(vars(Desk)[name]).parameters), ["self", *arguments])
        self.assertIn("__eq__", vars(Desk))

    def test_what_is_handed_in_is_copied(self):
        floor, laying = listed(LONG), listed(LEFT)
        desk = Desk(laying=laying, floor=floor)
        laying[0][0] = 7
        floor[0] = 5
        laying.pop()
        self.assertEqual((desk.floor(), desk.laying(), desk.first()), (LONG, LEFT, LEFT))
        self.assertEqual(desk.say("squares"), ("dot 0 0, dot 0 1",))

    def test_of_all_floors(self):
        for floor in FLOORS:
            desk = Desk(floor, some_laying(floor))
            many = floor[0] * floor[1]
            self.assertEqual(desk.say("rounds\nfar\nhigh dot 0 0"), (str(many), "0", "1"))
            self.assertEqual(len(desk.say("squares")[0].split(", ")), many)
            laid = by_blocks(desk.laying())
            self.assertTrue(own_anew(floor, laid, ("square", ("dot", 0, 0))))


class Refusals(unittest.TestCase):
    def test_floors_and_layings(self):
        check_unfit(self, Desk, [None, LEFT], 0, [*ODD, (0, 1), (1, 0), (), [], (1, 1, 1), 1, (2, 1)])
        check_unfit(self, Desk, [LONG, None], 1, ODD_LAYINGS)


if __name__ == "__main__":
    unittest.main()
