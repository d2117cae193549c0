"""The LAYING in the middle of oddly many, and LAYINGS between two."""

from teefloors.errors import TooMany, Unfit
from teefloors.fewest import squares_between
from teefloors.floors import faces, read_floor, touching_faces
from teefloors.lattice import heights_of, rise_by
from teefloors.layings import covers, read_laying
from teefloors.rises import flat_of, pieces_by_rise, rise_laid
from teefloors.ties import lot_laid
from teefloors.values import tupled

MOST_RISES = 2000


def read_layings(floor, value):
    """The tuple of oddly many LAYINGS of floor that was handed in; Unfit() if it is none."""
    held = tupled(value, 3)
    if not isinstance(held, tuple) or len(held) % 2 == 0:
        raise Unfit()
    if not all([covers(floor, laying) for laying in held]):
        raise Unfit()
    return held


def middle_heights(floor, layings):
    """A dict from each FACE of floor to the middle one of its heights in these LAYINGS."""
    heights = [heights_of(floor, rise_laid(floor, laying)) for laying in layings]
    return {face: sorted([own[face] for own in heights])[len(heights) // 2] for face in faces(floor)}


def middle_laying(floor, layings):
    """The middle one of these LAYINGS of floor."""
    rise = rise_by(floor, middle_heights(floor, layings))
    times = {tie: 0 for tie in flat_of(floor, rise)}
    for laying in layings:
        for tie in lot_laid(laying):
            if tie in times:
                times[tie] += 1
    book = [tie for tie, many in times.items() if 2 * many > len(layings)]
    return tuple(sorted(pieces_by_rise(floor, rise, book).values()))


def heights_between(beside, lowest, highest):
    """The list of all heights, one for each FACE, from lowest to highest; TooMany() if there are more than 2,000.

    beside leads from the place of each FACE to the list of the places of those beside it. From the
    lowest heights, raised FACE by FACE, one comes to all others.
    """
    found = [lowest]
    seen = {lowest: True}
    at = 0
    while at < len(found):
        now = found[at]
        at += 1
        for place, others in enumerate(beside):
            if now[place] < highest[place] and all([now[other] > now[place] for other in others]):
                after = (*now[:place], now[place] + 2, *now[place + 1:])
                if after not in seen:
                    seen[after] = True
                    found.append(after)
        if len(found) > MOST_RISES:
            raise TooMany()
    return found


def middle_rise(floor, layings):
    """The RISE that has at each FACE the middle one of the heights in these LAYINGS."""
    floor = read_floor(floor)
    return rise_by(floor, middle_heights(floor, read_layings(floor, layings)))


def middle(floor, layings):
    """The middle one of these LAYINGS."""
    floor = read_floor(floor)
    return middle_laying(floor, read_layings(floor, layings))


def is_middle(floor, layings, thing):
    """Whether thing is the middle one of these LAYINGS."""
    floor = read_floor(floor)
    layings = read_layings(floor, layings)
    return covers(floor, thing) and thing == middle_laying(floor, layings)


def kept_by_all(floor, layings):
    """The set of the PIECES that are in all of these LAYINGS."""
    floor = read_floor(floor)
    layings = read_layings(floor, layings)
    times = {piece: 0 for piece in layings[0]}
    for laying in layings:
        for piece in laying:
            if piece in times:
                times[piece] += 1
    return tuple([piece for piece, many in times.items() if many == len(layings)])


def sum_to(floor, laying, layings):
    """The fewest SQUARES from laying to each of these LAYINGS, added up."""
    floor = read_floor(floor)
    laying = read_laying(floor, laying)
    return sum([squares_between(floor, laying, other) for other in read_layings(floor, layings)])


def is_between(floor, laying, other, thing):
    """Whether thing is a LAYING of floor between laying and other."""
    floor = read_floor(floor)
    laying = read_laying(floor, laying)
    other = read_laying(floor, other)
    if not covers(floor, thing):
        return False
    way = squares_between(floor, laying, thing) + squares_between(floor, thing, other)
    return way == squares_between(floor, laying, other)


def rises_between(floor, laying, other):
    """The list, ascending, of the RISES of the LAYINGS between laying and other; TooMany() above 2,000."""
    floor = read_floor(floor)
    one = heights_of(floor, rise_laid(floor, read_laying(floor, laying)))
    two = heights_of(floor, rise_laid(floor, read_laying(floor, other)))
    order = list(one)
    places = {face: place for place, face in enumerate(order)}
    beside = [[places[next_to] for next_to in touching_faces(floor, face)] for face in order]
    lowest = tuple([min(one[face], two[face]) for face in order])
    highest = tuple([max(one[face], two[face]) for face in order])
    found = heights_between(beside, lowest, highest)
    return sorted([rise_by(floor, {face: heights[place] for face, place in places.items()}) for heights in found])
