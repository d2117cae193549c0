"""TOLD finished to LAYINGS: one that has them, or why there is none, and what all that have them share."""

from teefloors.errors import CanNot
from teefloors.floors import all_blocks, dot_face, faces, has_block, looks_like_tie, outer_face, read_floor, RIM
from teefloors.lattice import rise_by, steps_from_rim
from teefloors.pieces import block_in, lies_on, pieces_of, read_piece, sign_told, told_of_tie
from teefloors.rises import flat_of, height_at, pieces_by_rise
from teefloors.told import bounds_by, falls_by, read_fit_face, read_told, ring_that_falls, ties_by
from teefloors.told import ties_told_twice


def put_in(told, piece):
    """The set of the PIECES of told and this one."""
    return tuple(sorted(set([*told, piece])))


def why_none(floor, told):
    """Why no LAYING of floor has told: a TIE told both ways, or a RING that falls; None if some LAYING has."""
    twice = ties_told_twice(floor, told)
    if twice != ():
        return ("tie", twice[0])
    ring = ring_that_falls(bounds_by(floor, told))
    return None if ring is None else ("ring", ring)


def need_some(floor, told):
    """CanNot() if no LAYING of floor has told."""
    if why_none(floor, told) is not None:
        raise CanNot()


def read_some(floor, told):
    """The pair of the FLOOR and the TOLD that were handed in; Unfit(), or CanNot() if no LAYING has told."""
    floor = read_floor(floor)
    told = read_told(floor, told)
    need_some(floor, told)
    return (floor, told)


def is_why(floor, told, value):
    """Whether value, whatever it is, tells why no LAYING of floor has told."""
    if not isinstance(value, tuple) or len(value) != 2:
        return False
    word, reason = value
    if word == "tie":
        return looks_like_tie(reason) and reason in ties_told_twice(floor, told)
    return word == "ring" and falls_by(bounds_by(floor, told), reason)


def lower_from(leads, heights, turn):
    """Lower each height to which a STEP leads from a FACE of turn to what its bound allows; the list of these FACES."""
    lowered = {}
    for face in turn:
        for other, most in leads[face]:
            if heights[other] > heights[face] + most:
                heights[other] = heights[face] + most
                lowered[other] = True
    return list(lowered)


def most_heights(floor, bounds):
    """A dict from each FACE of floor to the least sum of bounds on a way from the RIM to it; None if a RING falls."""
    leads = {face: [] for face in faces(floor)}
    for (face, other), most in bounds.items():
        leads[face].append((other, most))
    heights = {face: steps_from_rim(floor, face) for face in leads}
    turn = list(leads)
    # Where a RING falls, all heights sink without an end, at last that of the RIM, too; else this stays 0.
    while turn != [] and heights[RIM] == 0:
        turn = lower_from(leads, heights, turn)
    return heights if heights[RIM] == 0 else None


def has_some(floor, told):
    """Whether some LAYING of floor has told: known sooner than by why_none, which must come to a RING, too."""
    return ties_told_twice(floor, told) == () and most_heights(floor, bounds_by(floor, told)) is not None


def least_heights(floor, bounds):
    """A dict from each FACE of floor to the least height that these bounds allow; no RING falls."""
    back = {(other, face): most for (face, other), most in bounds.items()}
    return {face: 0 - most for face, most in most_heights(floor, back).items()}


def rise_finished(floor, told):
    """The greatest RISE of LAYINGS of floor that have told; some has."""
    return rise_by(floor, most_heights(floor, bounds_by(floor, told)))


def least_rise_finished(floor, told):
    """The least RISE of LAYINGS of floor that have told; some has."""
    return rise_by(floor, least_heights(floor, bounds_by(floor, told)))


def words_by(floor, told):
    """A dict from each TIE that told tells to "tied" or "cut"; none is told both ways."""
    return {tie: word for tie, word in ties_by(floor, told)}


def laying_finished(floor, told):
    """A LAYING of floor that has told; some has."""
    rise = rise_finished(floor, told)
    words = words_by(floor, told)
    book = [tie for tie in flat_of(floor, rise) if words.get(tie) == "tied"]
    return tuple(sorted(pieces_by_rise(floor, rise, book).values()))


def all_reached(leads, face):
    """A dict of all FACES to which one comes from this one; leads goes from each FACE to a list of others."""
    reached = {face: True}
    waiting = [face]
    while waiting:
        for other in leads[waiting.pop()]:
            if other not in reached:
                reached[other] = True
                waiting.append(other)
    return reached


def signs_beside(floor, told):
    """A dict from each BLOCK of floor to the tuple of the SIGNS it has in LAYINGS that have told; some has.

    In the greatest RISE a height can sink below another one if no way leads to this from it by STEPS
    that are as great as their bounds: what is on such ways must sink as well.
    """
    bounds = bounds_by(floor, told)
    heights = most_heights(floor, bounds)
    leads = {face: [] for face in heights}
    for (face, other), most in bounds.items():
        if heights[other] == heights[face] + most:
            leads[face].append(other)
    reached = {face: all_reached(leads, face) for face in leads}
    found = {}
    for block in all_blocks(floor):
        dot, outer = dot_face(block), outer_face(floor, block)
        sign = heights[dot] - heights[outer]
        upper, lower = (dot, outer) if sign == 1 else (outer, dot)
        found[block] = (sign,) if lower in reached[upper] else (1, -1)
    return found


def fits_words(words, pair):
    """Whether no other word stands in words, a dict from TIES, than in this pair of a TIE and one, or None."""
    return pair is None or words.get(pair[0], pair[1]) == pair[1]


def pieces_beside(floor, told):
    """The list, ascending, of the PIECES of all LAYINGS of floor that have told; some has.

    A PIECE tells one SIGN of two BLOCKS that touch one FACE together: if each of them can have it, both
    can have it at once.
    """
    signs = signs_beside(floor, told)
    words = words_by(floor, told)
    found = []
    for block in all_blocks(floor):
        for other, piece in pieces_of(block).items():
            sign = sign_told(piece)
            if has_block(floor, other) and sign in signs[block] and sign in signs[other]:
                if fits_words(words, told_of_tie(floor, piece)):
                    found.append(piece)
    return sorted(found)


def can_finish(floor, told):
    """Whether some LAYING has all of told."""
    floor = read_floor(floor)
    return why_none(floor, read_told(floor, told)) is None


def finished(floor, told):
    """A LAYING that has told; CanNot() if there is none."""
    floor, told = read_some(floor, told)
    return laying_finished(floor, told)


def why_not(floor, told):
    """A TIE told both ways, or a RING that falls, with the word for it; CanNot() if told can be finished."""
    floor = read_floor(floor)
    reason = why_none(floor, read_told(floor, told))
    if reason is None:
        raise CanNot()
    return reason


def is_why_not(floor, told, thing):
    """Whether thing is ("tie", a TIE told both ways) or ("ring", a RING that falls)."""
    floor = read_floor(floor)
    return is_why(floor, read_told(floor, told), thing)


def least_finished(floor, told):
    """The least RISE of LAYINGS that have told; CanNot() if none has."""
    floor, told = read_some(floor, told)
    return least_rise_finished(floor, told)


def greatest_finished(floor, told):
    """The greatest RISE of LAYINGS that have told; CanNot() if none has."""
    floor, told = read_some(floor, told)
    return rise_finished(floor, told)


def height_span(floor, told, face):
    """The pair of the least and the greatest height of this FACE in LAYINGS that have told; CanNot() if none has."""
    floor = read_floor(floor)
    told = read_told(floor, told)
    face = read_fit_face(floor, face)
    need_some(floor, told)
    return (height_at(least_rise_finished(floor, told), face), height_at(rise_finished(floor, told), face))


def can_lie_beside(floor, told, piece):
    """Whether some LAYING has told and this PIECE."""
    floor = read_floor(floor)
    told = read_told(floor, told)
    piece = read_piece(piece)
    return lies_on(floor, piece) and why_none(floor, put_in(told, piece)) is None


def sure_pieces(floor, told):
    """The set of the PIECES that each LAYING with told has; CanNot() if there is none."""
    floor, told = read_some(floor, told)
    beside = pieces_beside(floor, told)
    times = {block: 0 for block in all_blocks(floor)}
    for piece in beside:
        times[block_in(piece)] += 1
    return tuple([piece for piece in beside if times[block_in(piece)] == 1])


def sure_ties(floor, told):
    """The set of the pairs of a TIE and "tied" or "cut" that each LAYING with told tells; CanNot() if there is none."""
    floor, told = read_some(floor, told)
    # Each LAYING tells each TIE by some PIECE.
    pairs = ties_by(floor, pieces_beside(floor, told))
    times = {tie: 0 for tie, _ in pairs}
    for tie, _ in pairs:
        times[tie] += 1
    return tuple([(tie, word) for tie, word in pairs if times[tie] == 1])
