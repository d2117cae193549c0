"""RISES by size: the least and the greatest, RISES between, FACES raised and lowered."""

from teefloors.errors import CanNot, TooMany
from teefloors.floors import faces, read_face, read_floor, RIM, touching_faces
from teefloors.rises import height_at, read_rise

MOST_DOTS = 10
MOST_NARROW = 4


def steps_from_rim(floor, face):
    """How many STEPS at the fewest lead from the RIM to this FACE of floor."""
    if face == RIM:
        return 0
    word, i, j = face
    more = 1 if word == "dot" else 2
    # Each STEP leads half a FACE on: straight to the nearest side, to and fro along it.
    return 2 * min(i, j, floor[0] - more - i, floor[1] - more - j) + more


def rise_by(floor, heights):
    """The RISE of floor with these heights: a dict from FACES, the RIM's left aside."""
    many, high = floor
    dots = [tuple([heights[("dot", i, j)] for j in range(high)]) for i in range(many)]
    inners = [tuple([heights[("inner", i, j)] for j in range(high - 1)]) for i in range(many - 1)]
    return (tuple(dots), tuple(inners))


def heights_of(floor, rise):
    """A dict from each FACE of floor, ascending, to its height in this RISE."""
    return {face: height_at(rise, face) for face in faces(floor)}


def least_of(floor):
    """The least RISE of floor."""
    return rise_by(floor, {face: 0 - steps_from_rim(floor, face) for face in faces(floor)})


def greatest_of(floor):
    """The greatest RISE of floor."""
    return rise_by(floor, {face: steps_from_rim(floor, face) for face in faces(floor)})


def can_move(floor, rise, face, sign):
    """Whether this FACE of floor, not the RIM, can be 2 more, or by SIGN -1 2 less, all others staying."""
    beyond = height_at(rise, face) + sign
    return all([height_at(rise, other) == beyond for other in touching_faces(floor, face)])


def all_that_move(floor, rise, sign):
    """The set of the FACES of floor, but the RIM, that can be 2 more, or by SIGN -1 2 less."""
    return tuple([face for face in faces(floor) if face != RIM and can_move(floor, rise, face, sign)])


def moved_at(floor, rise, face, sign):
    """The RISE with 2 more at this FACE, by SIGN -1 with 2 less; CanNot() if that is none."""
    if face == RIM or not can_move(floor, rise, face, sign):
        raise CanNot()
    heights = heights_of(floor, rise)
    heights[face] += 2 * sign
    return rise_by(floor, heights)


def least_rise(floor):
    """The least RISE."""
    return least_of(read_floor(floor))


def greatest_rise(floor):
    """The greatest RISE."""
    return greatest_of(read_floor(floor))


def steps_to(floor, face):
    """How many STEPS at the fewest lead from the RIM to this FACE."""
    floor = read_floor(floor)
    return steps_from_rim(floor, read_face(floor, face))


def lower(floor, rise, other):
    """The RISE that has, FACE by FACE, the lesser of both heights."""
    floor = read_floor(floor)
    rise = read_rise(floor, rise)
    other = read_rise(floor, other)
    return rise_by(floor, {face: min(height_at(rise, face), height_at(other, face)) for face in faces(floor)})


def upper(floor, rise, other):
    """The RISE that has, FACE by FACE, the greater of both heights."""
    floor = read_floor(floor)
    rise = read_rise(floor, rise)
    other = read_rise(floor, other)
    return rise_by(floor, {face: max(height_at(rise, face), height_at(other, face)) for face in faces(floor)})


def is_below(floor, rise, other):
    """Whether at no FACE the height of rise is greater than that of other."""
    floor = read_floor(floor)
    rise = read_rise(floor, rise)
    other = read_rise(floor, other)
    return all([height_at(rise, face) <= height_at(other, face) for face in faces(floor)])


def can_rise(floor, rise):
    """The set of the FACES, but the RIM, at which the height can be 2 more."""
    floor = read_floor(floor)
    return all_that_move(floor, read_rise(floor, rise), 1)


def can_fall(floor, rise):
    """The set of the FACES, but the RIM, at which the height can be 2 less."""
    floor = read_floor(floor)
    return all_that_move(floor, read_rise(floor, rise), -1)


def raised(floor, rise, face):
    """The RISE with 2 more at this FACE; CanNot() if that is none."""
    floor = read_floor(floor)
    rise = read_rise(floor, rise)
    return moved_at(floor, rise, read_face(floor, face), 1)


def lowered(floor, rise, face):
    """The RISE with 2 less at this FACE; CanNot() if that is none."""
    floor = read_floor(floor)
    rise = read_rise(floor, rise)
    return moved_at(floor, rise, read_face(floor, face), -1)


def sum_of(floor, rise):
    """All heights of rise, added up."""
    floor = read_floor(floor)
    rise = read_rise(floor, rise)
    return sum([number for heights in rise for column in heights for number in column])


def rows_between(row):
    """The list of the rows with one height between each two of this one, unlike both by 1."""
    found = [()]
    for one, other in zip(row, row[1:]):
        fit = [number for number in (one - 1, one + 1) if abs(number - other) == 1]
        found = [(*begun, number) for begun in found for number in fit]
    return found


def rows_of_dots(floor, i, inners):
    """The list of the rows of heights that the DOTS (i, ..) can have, east of these of INNER FACES."""
    found = rows_between((0, *inners, 0))
    # East of the last DOTS lies the RIM.
    return found if i < floor[0] - 1 else [row for row in found if max(row) <= 1 and min(row) >= -1]


def list_of_rises(floor):
    """The list, ascending, of all RISES; TooMany() if there are more than 2,000."""
    # With 0 at all INNER FACES each DOT is as one likes, which makes 2 to the number of DOTS; with no
    # more DOTS than these there are at most 1,706.
    if floor[0] * floor[1] > MOST_DOTS:
        raise TooMany()
    rim = (0,) * (floor[1] - 1)
    found = [((), ())]
    for i in range(floor[0]):
        begun = [(dots, inners, inners[-1] if i > 0 else rim) for dots, inners in found]
        found = [((*dots, row), inners) for dots, inners, last in begun for row in rows_of_dots(floor, i, last)]
        if i < floor[0] - 1:
            found = [(dots, (*inners, row)) for dots, inners in found for row in rows_between(dots[-1])]
    return sorted(found)


def all_rises(floor):
    """The list, ascending, of all RISES; TooMany() if there are more than 2,000."""
    return list_of_rises(read_floor(floor))


def how_many_rises(floor):
    """How many RISES there are; TooMany() if the shorter side has more than 4 DOTS."""
    narrow, long = sorted(read_floor(floor))
    if narrow > MOST_NARROW:
        raise TooMany()
    # FLOORS turned about have as many. Of what lies behind only the last row of heights matters.
    times = {(0,) * (narrow - 1): 1}
    for i in range(long):
        grown = {}
        for inners, many in times.items():
            for row in rows_of_dots((long, narrow), i, inners):
                grown[row] = grown.get(row, 0) + many
        times = {}
        for dots, many in grown.items():
            for row in rows_between(dots):
                times[row] = times.get(row, 0) + many
    # Behind the last DOTS, each 1 or -1, all rows stand as often as there are such; one of 0 is always among them.
    return times[(0,) * (narrow - 1)]
