"""Pictures of LAYINGS, and texts of SHEETS, written and read."""

from teefloors.errors import BadText, CanNot, Unfit
from teefloors.floors import has_tie, is_floor, looks_like_face, looks_like_tie, read_floor, RIM
from teefloors.layings import blocks_laid, covers, read_laying
from teefloors.pieces import are_pieces, gone_to, is_piece, pieces_of, STEPS
from teefloors.signs import number_of, word_of, words
from teefloors.values import is_ascending, tupled

WAY_SIGNS = ">^<v"


def read_lines(text):
    """The list of the lines of a picture; BadText(line) for the first fault that this text has as one."""
    lines = text.split("\n")
    # Behind the line break that ends the last line no line begins.
    last = lines.pop()
    lines = lines if last == "" else [*lines, last]
    for at, line in enumerate(lines):
        if line == "" or len(line) % 2 == 1 or len(line) != len(lines[0]):
            raise BadText(at)
        if not all([sign in WAY_SIGNS for sign in line]):
            raise BadText(at)
    if last != "":
        raise BadText(len(lines) - 1)
    if lines == [] or len(lines) % 2 == 1:
        raise BadText(len(lines))
    return lines


def way_out(piece, block):
    """The sign for the way by which this PIECE of this BLOCK goes out of it."""
    i, j = gone_to(piece)
    return WAY_SIGNS[STEPS.index((i - block[0], j - block[1]))]


def piece_out(block, sign):
    """The PIECE of this BLOCK that goes out of it by the way of this sign."""
    east, north = STEPS[WAY_SIGNS.index(sign)]
    return pieces_of(block)[(block[0] + east, block[1] + north)]


def is_some_deed(value):
    """Whether value, whatever it is, is a DEED of some LAYING of some FLOOR."""
    if not isinstance(value, tuple) or len(value) != 2:
        return False
    word, where = value
    if word == "square":
        return looks_like_face(where) and where != RIM and min(where[1:]) >= 0
    # The FLOOR up to the second DOT of a TIE has it, or none has.
    return word == "pair" and looks_like_tie(where) and has_tie((where[1][0] + 1, where[1][1] + 1), where)


def is_sheet_of(value):
    """Whether value, whatever it is, is a SHEET."""
    if not isinstance(value, tuple) or len(value) != 3:
        return False
    floor, pieces, deeds = value
    if not is_floor(floor) or not are_pieces(pieces) or not is_ascending(pieces):
        return False
    return isinstance(deeds, tuple) and all([is_some_deed(deed) for deed in deeds])


def row_of_deed(deed):
    """The list of the words and numbers of the row for this DEED."""
    word, where = deed
    return [word, *where] if word == "square" else [word, *where[0], *where[1]]


def row_told(row):
    """This list of words and numbers as a row of a text, ended."""
    return " ".join([own if isinstance(own, str) else word_of(own) for own in row]) + "\n"


def rows_in(found):
    """The list of pairs of a line and the list of its words, of those lines that have words."""
    rows = []
    for word, line in found:
        if rows == [] or rows[-1][0] != line:
            rows.append((line, []))
        rows[-1][1].append(word)
    return rows


def deed_by(word, numbers):
    """What a row with these numbers behind this word, or words, tells as a DEED, be it one or not; None if nothing."""
    if word in ("square dot", "square inner"):
        return ("square", (word.split(" ")[1], *numbers))
    if word == "pair":
        return ("pair", (tuple(numbers[:2]), tuple(numbers[2:])))
    return None


def value_of_row(row):
    """The pair of "floor", "piece" or "deed" and what this row tells as such; None if it tells nothing."""
    named = 2 if row[0] == "square" else 1
    word = " ".join(row[:named])
    numbers = [number_of(own) for own in row[named:]]
    if None in numbers:
        return None
    held = tuple(numbers)
    if word == "floor":
        return ("floor", held) if is_floor(held) else None
    if word == "piece":
        return ("piece", held) if is_piece(held) else None
    deed = deed_by(word, numbers)
    return ("deed", deed) if is_some_deed(deed) else None


def can_stand(told, begun):
    """Whether what this row tells can stand behind what has begun: lists of FLOORS, PIECES and DEEDS by their words."""
    if told is None:
        return False
    word, value = told
    if word == "floor":
        return begun["floor"] == []
    if word == "piece" and (begun["deed"] != [] or not is_ascending([*begun["piece"][-1:], value])):
        return False
    return begun["floor"] != []


def picture(floor, laying):
    """The picture of laying: a sign for the way out of each BLOCK, the northmost row first."""
    floor = read_floor(floor)
    laid = blocks_laid(read_laying(floor, laying))
    lines = []
    for j in range(2 * floor[1] - 1, -1, -1):
        lines.append("".join([way_out(laid[(i, j)], (i, j)) for i in range(2 * floor[0])]) + "\n")
    return "".join(lines)


def read_picture(text):
    """The pair of the FLOOR and the LAYING with this picture; BadText(line), or CanNot() if there is none."""
    lines = read_lines(text)
    floor = (len(lines[0]) // 2, len(lines) // 2)
    pieces = []
    for j, line in enumerate(reversed(lines)):
        pieces.extend([piece_out((i, j), sign) for i, sign in enumerate(line)])
    laying = tuple(sorted(pieces))
    if not covers(floor, laying):
        raise CanNot()
    return (floor, laying)


def is_sheet(thing):
    """Whether thing is a SHEET."""
    return is_sheet_of(thing)


def sheet_text(sheet):
    """The text of a SHEET, a row a line; Unfit() if it is none."""
    held = tupled(sheet, 5)
    if not is_sheet_of(held):
        raise Unfit()
    floor, pieces, deeds = held
    rows = [["floor", *floor]] + [["piece", *piece] for piece in pieces] + [row_of_deed(deed) for deed in deeds]
    return "".join([row_told(row) for row in rows])


def read_sheet(text):
    """The SHEET that this text tells; BadText(line) for its first fault."""
    rows = rows_in(words(text))
    if rows == []:
        raise BadText(0)
    begun = {"floor": [], "piece": [], "deed": []}
    for line, row in rows:
        told = value_of_row(row)
        if not can_stand(told, begun):
            raise BadText(line)
        begun[told[0]].append(told[1])
    return (begun["floor"][0], tuple(begun["piece"]), tuple(begun["deed"]))
