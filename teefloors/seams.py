"""LINES across a FLOOR, LAYINGS parted at seams and put together again."""

from teefloors.errors import CanNot, Unfit
from teefloors.floors import all_inners, read_floor, RIM, ties
from teefloors.lattice import heights_of, rise_by, steps_from_rim
from teefloors.layings import read_laying
from teefloors.pieces import piece_cells
from teefloors.rises import flat_of, pieces_by_rise, rise_laid
from teefloors.ties import lot_laid
from teefloors.values import are_numbers, read_below, tupled


def is_line_of(floor, value):
    """Whether value, whatever it is, is a LINE of floor."""
    return are_numbers(value, 2) and value[0] in (0, 1) and 1 <= value[1] < floor[value[0]]


def read_line(floor, value):
    """The LINE of floor that was handed in; Unfit() if it is none."""
    held = tupled(value, 1)
    if not is_line_of(floor, held):
        raise Unfit()
    return held


def all_lines(floor):
    """The list of the LINES of floor, ascending."""
    return [(way, number) for way in (0, 1) for number in range(1, floor[way])]


def crossing_ties(floor, line):
    """The list of the TIES of floor across this LINE, ascending."""
    way, number = line
    return [(one, other) for one, other in ties(floor) if one[way] < number <= other[way]]


def line_faces(floor, line):
    """The list of the INNER FACES of floor on this LINE, ascending."""
    way, number = line
    return [face for face in all_inners(floor) if face[1 + way] == number - 1]


def crossing_pieces(laying, line):
    """The list of the PIECES of laying that go across this LINE, ascending."""
    way, number = line
    found = []
    for piece in laying:
        beyond = [cell[way] >= 4 * number for cell in piece_cells(piece)]
        if any(beyond) and not all(beyond):
            found.append(piece)
    return found


def pieces_shifted(pieces, way, many):
    """The list of these PIECES, so many CELLS further on to the east (way 0) or to the north (way 1)."""
    if way == 0:
        return [(x + many, y, stem) for x, y, stem in pieces]
    return [(x, y + many, stem) for x, y, stem in pieces]


def side_of_line(floor, line, face):
    """The FLOOR on that side of this LINE on which this DOT or INNER FACE, not on it, lies, and the FACE there."""
    way, number = line
    first = face[1 + way] < number
    many = number if first else floor[way] - number
    shift = 0 if first else number
    if way == 0:
        return ((many, floor[1]), (face[0], face[1] - shift, face[2]))
    return ((floor[0], many), (face[0], face[1], face[2] - shift))


def steps_from_line(floor, line, face):
    """How many STEPS at the fewest lead to this FACE of floor from the RIM or a FACE on this LINE."""
    if face == RIM or face in line_faces(floor, line):
        return 0
    half, there = side_of_line(floor, line, face)
    return steps_from_rim(half, there)


def nearest_heights(floor, laying, line):
    """A dict from each FACE of floor to its height in the RISE nearest that of laying with 0 on this LINE."""
    found = {}
    for face, now in heights_of(floor, rise_laid(floor, laying)).items():
        most = steps_from_line(floor, line, face)
        found[face] = min(max(now, 0 - most), most)
    return found


def is_line(floor, thing):
    """Whether thing is a LINE of floor."""
    return is_line_of(read_floor(floor), thing)


def ties_across(floor, line):
    """The set of the TIES across this LINE."""
    floor = read_floor(floor)
    return tuple(crossing_ties(floor, read_line(floor, line)))


def faces_on(floor, line):
    """The set of the FACES on this LINE."""
    floor = read_floor(floor)
    return tuple(line_faces(floor, read_line(floor, line)))


def pieces_across(floor, laying, line):
    """The set of the PIECES of laying that go across this LINE."""
    floor = read_floor(floor)
    laying = read_laying(floor, laying)
    return tuple(crossing_pieces(laying, read_line(floor, line)))


def seams(floor, laying):
    """The set of the seams of laying: the LINES across which no PIECE goes."""
    floor = read_floor(floor)
    laying = read_laying(floor, laying)
    return tuple([line for line in all_lines(floor) if crossing_pieces(laying, line) == []])


def parted_at(floor, laying, line):
    """The pair of the LAYINGS into which laying is parted at this LINE; CanNot() if it is no seam."""
    floor = read_floor(floor)
    laying = read_laying(floor, laying)
    way, number = read_line(floor, line)
    if crossing_pieces(laying, (way, number)) != []:
        raise CanNot()
    first = [piece for piece in laying if piece[way] < 4 * number]
    rest = [piece for piece in laying if piece[way] >= 4 * number]
    return (tuple(first), tuple(pieces_shifted(rest, way, 0 - 4 * number)))


def put_beside(floor, laying, other_floor, other, way):
    """The LAYING of both FLOORS put side by side; Unfit() if they are not equally high (way 0), or wide (way 1)."""
    floor = read_floor(floor)
    laying = read_laying(floor, laying)
    other_floor = read_floor(other_floor)
    other = read_laying(other_floor, other)
    way = read_below(way, 2)
    if floor[1 - way] != other_floor[1 - way]:
        raise Unfit()
    return tuple(sorted([*laying, *pieces_shifted(other, way, 4 * floor[way])]))


def nearest_parted(floor, laying, line):
    """The LAYING with the nearest RISE that has 0 on this LINE, and with no TIE across tied."""
    floor = read_floor(floor)
    laying = read_laying(floor, laying)
    line = read_line(floor, line)
    rise = rise_by(floor, nearest_heights(floor, laying, line))
    lot, across = lot_laid(laying), crossing_ties(floor, line)
    book = [tie for tie in flat_of(floor, rise) if tie in lot and tie not in across]
    return tuple(sorted(pieces_by_rise(floor, rise, book).values()))


def squares_to_part(floor, laying, line):
    """The fewest SQUARES from laying to a LAYING of which this LINE is a seam."""
    floor = read_floor(floor)
    laying = read_laying(floor, laying)
    nearest = nearest_heights(floor, laying, read_line(floor, line))
    heights = heights_of(floor, rise_laid(floor, laying))
    return sum([abs(nearest[face] - heights[face]) for face in heights]) // 2
