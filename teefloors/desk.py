"""The desk: a LAYING of a FLOOR, worked by lines of text."""

from teefloors.errors import BadText, NothingDone
from teefloors.fewest import squares_between
from teefloors.floors import has_face, has_tie, read_floor
from teefloors.layings import blocks_laid, read_laying
from teefloors.rises import height_at, rise_laid
from teefloors.rounds import rounds_of_lot
from teefloors.signs import number_of, word_of
from teefloors.squares import carry_out, deeds
from teefloors.ties import lot_laid

MOST_FIGURES = 6


def read_number(word):
    """The number from 0, of at most 6 figures, that this word tells; None if it tells none."""
    return number_of(word) if len(word) <= MOST_FIGURES and word[:1] != "-" else None


def face_by(words):
    """What has the form of a DOT or an INNER FACE and is told by these words; None if nothing is."""
    if len(words) != 3 or words[0] not in ("dot", "inner"):
        return None
    i, j = read_number(words[1]), read_number(words[2])
    return None if None in (i, j) else (words[0], i, j)


def tie_by(words):
    """The pair of a DOT, as a pair, and the one east or north of it told by these words; None if they tell none."""
    if len(words) != 3 or words[2] not in ("east", "north"):
        return None
    i, j = read_number(words[0]), read_number(words[1])
    if None in (i, j):
        return None
    return ((i, j), (i + 1, j) if words[2] == "east" else (i, j + 1))


def read_line(line):
    """The pair of what this line asks for and the FACE or the TIE, or None, with it; None if it is no line."""
    word, *rest = line.split(" ")
    if word in ("squares", "pairs", "rounds", "far"):
        return (word, None) if rest == [] else None
    where = None
    if word in ("square", "high"):
        where = face_by(rest)
    elif word == "pair":
        where = tie_by(rest)
    return None if where is None else (word, where)


def read_orders(text):
    """The list of what the lines of this text ask for; BadText(line) for the first that is none."""
    orders = []
    for at, line in enumerate(text.split("\n")):
        order = read_line(line)
        if order is None:
            raise BadText(at)
        orders.append(order)
    return orders


def face_told(face):
    """The words for this FACE."""
    return " ".join([face[0], word_of(face[1]), word_of(face[2])])


def tie_told_as(tie):
    """The words for this TIE."""
    (i, j), other = tie
    return " ".join([word_of(i), word_of(j), "east" if other == (i + 1, j) else "north"])


def told_in_a_row(told):
    """These words for FACES or TIES, parted, or the word for none."""
    return "none" if told == [] else ", ".join(told)


class Desk:
    """A LAYING of a FLOOR that is worked by lines of text."""

    def __init__(self, floor, laying):
        self._floor = read_floor(floor)
        self._first = read_laying(self._floor, laying)
        self._laying = self._first
        # The LAYINGS ahead of each say that can be taken back, and behind each that can be done once more.
        self._behind = []
        self._beyond = []

    def __eq__(self, other):
        """Whether other is a Desk with the same FLOOR, first LAYING and LAYING."""
        return (isinstance(other, Desk) and self._floor == other._floor
                and self._first == other._first and self._laying == other._laying)

    def floor(self):
        """The FLOOR."""
        return self._floor

    def laying(self):
        """The LAYING now."""
        return self._laying

    def first(self):
        """The LAYING of the beginning."""
        return self._first

    def say(self, text):
        """The tuple of the answers to the lines of this text; BadText(line) for the first that is none."""
        orders = read_orders(text)
        before = self._laying
        answers = []
        for word, where in orders:
            answers.append(self._answer(word, where))
        if "done" in answers:
            self._behind.append(before)
            self._beyond = []
        return tuple(answers)

    def undo(self):
        """Take back the last say that did something; how many can be taken back then. NothingDone() if none can be."""
        if self._behind == []:
            raise NothingDone()
        self._beyond.append(self._laying)
        self._laying = self._behind.pop()
        return len(self._behind)

    def redo(self):
        """Do once more what undo took back last; how many says can be taken back then. NothingDone() likewise."""
        if self._beyond == []:
            raise NothingDone()
        self._behind.append(self._laying)
        self._laying = self._beyond.pop()
        return len(self._behind)

    def twin(self):
        """Another Desk like this one, with all that can be taken back and done once more."""
        other = Desk(self._floor, self._first)
        other._laying = self._laying
        other._behind = list(self._behind)
        other._beyond = list(self._beyond)
        return other

    def _answer(self, word, where):
        """What is answered to a line that asks for this, behind it is done."""
        if word in ("square", "high") and not has_face(self._floor, where):
            return "no face"
        if word == "pair" and not has_tie(self._floor, where):
            return "no tie"
        if word in ("square", "pair"):
            return self._work(word, where)
        if word == "high":
            return word_of(height_at(rise_laid(self._floor, self._laying), where))
        if word == "squares":
            return told_in_a_row([face_told(face) for face in self._open_to("square")])
        if word == "pairs":
            return told_in_a_row([tie_told_as(tie) for tie in self._open_to("pair")])
        if word == "rounds":
            return word_of(len(rounds_of_lot(self._floor, lot_laid(self._laying))))
        return word_of(squares_between(self._floor, self._first, self._laying))

    def _work(self, word, where):
        """Do this DEED, if it is one of the LAYING now; what is answered."""
        laid = blocks_laid(self._laying)
        if not carry_out(self._floor, laid, (word, where)):
            return "no " + word
        self._laying = tuple(sorted(laid.values()))
        return "done"

    def _open_to(self, word):
        """The list of the FACES of all SQUARES, or the TIES of all PAIRS, of the LAYING now."""
        return [where for own, where in deeds(self._floor, self._laying) if own == word]
