"""TOLD PIECES: what they tell of SIGNS and TIES, the bounds of STEPS, and RINGS that fall."""

from teefloors.errors import CanNot, Unfit
from teefloors.floors import all_blocks, dot_face, has_face, looks_like_face, outer_face, read_floor, RIM
from teefloors.pieces import are_pieces, block_in, gone_to, lies_on, sign_told, told_of_tie
from teefloors.values import is_ascending, tupled


def is_told_of(floor, value):
    """Whether value, whatever it is, is a TOLD of floor."""
    return are_pieces(value) and is_ascending(value) and all([lies_on(floor, piece) for piece in value])


def read_told(floor, value):
    """The TOLD of floor that was handed in; Unfit() if it is none."""
    held = tupled(value, 2)
    if not is_told_of(floor, held):
        raise Unfit()
    return held


def read_fit_face(floor, value):
    """The FACE of floor that was handed in; Unfit() if it is none."""
    held = tupled(value, 1)
    if not looks_like_face(held) or not has_face(floor, held):
        raise Unfit()
    return held


def signs_by(told):
    """The set of the pairs of a BLOCK and a SIGN that these PIECES tell."""
    pairs = [(block, sign_told(piece)) for piece in told for block in (block_in(piece), gone_to(piece))]
    return tuple(sorted(set(pairs)))


def ties_by(floor, told):
    """The set of the pairs of a TIE and "tied" or "cut" that these PIECES tell."""
    found = [told_of_tie(floor, piece) for piece in told]
    return tuple(sorted({pair for pair in found if pair is not None}))


def ties_told_twice(floor, told):
    """The set of the TIES that these PIECES tell as tied and as cut."""
    # As they stand ascending, the two pairs of one TIE stand side by side.
    pairs = ties_by(floor, told)
    return tuple([one[0] for one, other in zip(pairs, pairs[1:]) if one[0] == other[0]])


def bounds_by(floor, told):
    """A dict from each STEP, a pair of FACES, to its bound."""
    bounds = {}
    for block in all_blocks(floor):
        dot, outer = dot_face(block), outer_face(floor, block)
        bounds[(dot, outer)] = bounds[(outer, dot)] = 1
    for block, sign in signs_by(told):
        dot, outer = dot_face(block), outer_face(floor, block)
        bounds[(outer, dot)] = min(bounds[(outer, dot)], sign)
        bounds[(dot, outer)] = min(bounds[(dot, outer)], 0 - sign)
    return bounds


def is_ring_by(bounds, value):
    """Whether value, whatever it is, is a RING of these STEPS."""
    if not isinstance(value, tuple) or len(value) < 3:
        return False
    if not all([looks_like_face(item) for item in value]):
        return False
    return value[0] == value[-1] and all([step in bounds for step in zip(value, value[1:])])


def sum_round(bounds, ring):
    """The bounds of the STEPS of this RING, added up."""
    return sum([bounds[step] for step in zip(ring, ring[1:])])


def falls_by(bounds, value):
    """Whether value, whatever it is, is a RING that falls by these bounds."""
    return is_ring_by(bounds, value) and sum_round(bounds, value) < 0


def ring_back(ahead, face):
    """The RING that one comes round from this FACE, which is on it; ahead leads from each FACE back to one."""
    ring = [face]
    while len(ring) == 1 or ring[-1] != face:
        ring.append(ahead[ring[-1]])
    return tuple(ring[::-1])


def lower_once(bounds, heights, ahead):
    """Lower each height, STEP by STEP, to what its bound allows; the FACE lowered last, None if there is none.

    ahead is told for each FACE that is lowered from which one the STEP led.
    """
    last = None
    for (face, other), most in bounds.items():
        if heights[other] > heights[face] + most:
            heights[other] = heights[face] + most
            ahead[other] = face
            last = other
    return last


def ring_that_falls(bounds):
    """A RING that falls by these bounds; None if there is none."""
    heights = {face: 0 for face, _ in bounds}
    ahead = {}
    last = RIM
    for _ in range(len(heights)):
        last = lower_once(bounds, heights, ahead)
        if last is None:
            return None
    # What is lowered still, behind as many turns as there are FACES, is so without an end: going back by
    # as many STEPS, one has come to a RING by which it is.
    for _ in range(len(heights)):
        last = ahead[last]
    return ring_back(ahead, last)


def is_told(floor, thing):
    """Whether thing is a TOLD of floor."""
    return is_told_of(read_floor(floor), thing)


def signs_told(floor, told):
    """The set of the pairs of a BLOCK and a SIGN that the PIECES of told tell."""
    return signs_by(read_told(read_floor(floor), told))


def ties_told(floor, told):
    """The set of the pairs of a TIE and "tied" or "cut" that the PIECES of told tell."""
    floor = read_floor(floor)
    return ties_by(floor, read_told(floor, told))


def both_ways(floor, told):
    """The set of the TIES that are told as tied and as cut."""
    floor = read_floor(floor)
    return ties_told_twice(floor, read_told(floor, told))


def bound(floor, told, face, other):
    """The bound of the STEP from face to other; CanNot() if that is no STEP."""
    floor = read_floor(floor)
    told = read_told(floor, told)
    face = read_fit_face(floor, face)
    other = read_fit_face(floor, other)
    most = bounds_by(floor, told).get((face, other))
    if most is None:
        raise CanNot()
    return most


def ring_bound(floor, told, ring):
    """The bounds of the STEPS of ring, added up."""
    floor = read_floor(floor)
    bounds = bounds_by(floor, read_told(floor, told))
    held = tupled(ring, 2)
    if not is_ring_by(bounds, held):
        raise Unfit()
    return sum_round(bounds, held)


def falling_ring(floor, told):
    """A RING that falls; CanNot() if there is none."""
    floor = read_floor(floor)
    ring = ring_that_falls(bounds_by(floor, read_told(floor, told)))
    if ring is None:
        raise CanNot()
    return ring


def is_falling_ring(floor, told, thing):
    """Whether thing is a RING that falls."""
    floor = read_floor(floor)
    return falls_by(bounds_by(floor, read_told(floor, told)), thing)
