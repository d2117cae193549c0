"""Counts, by fronts, of the LAYINGS and the RISES that have told PIECES, or heights."""

from teefloors.errors import CanNot, Unfit
from teefloors.floors import many_ties, need_block, read_face, read_floor, RIM
from teefloors.fronts import are_alike_at, Fronts, fronts_told, heights_along, need_narrow, shore_fronts
from teefloors.fronts import site_places, turned_front
from teefloors.pieces import lies_on, lying_of, read_piece
from teefloors.rises import read_rise
from teefloors.told import read_told
from teefloors.values import read_pair


def many_having(floor, told):
    """How many LAYINGS of floor have all PIECES of told."""
    return fronts_told(floor, told, True).many()


def read_own_piece(floor, value):
    """The PIECE, one of the four of its BLOCK that lie on floor, that was handed in; Unfit() if it is none."""
    held = read_piece(value)
    if not lies_on(floor, held):
        raise Unfit()
    return held


def rank_and_place(fronts, floor, face):
    """The first rank of this DOT or INNER FACE of floor, and its place along it."""
    word, i, j = face
    block = (2 * i, 2 * j) if word == "dot" else (2 * i + 1, 2 * j + 1)
    rank = fronts.rank_of(block)
    return (rank, fronts.faces_along(rank).index(face))


def many_layings(floor, told):
    """How many LAYINGS have all PIECES of told; TooMany() if both sides are above 7."""
    floor = read_floor(floor)
    told = read_told(floor, told)
    need_narrow(floor)
    return many_having(floor, told)


def many_rises(floor, told):
    """How many RISES the LAYINGS have that have all PIECES of told; TooMany() as many_layings."""
    floor = read_floor(floor)
    told = read_told(floor, told)
    need_narrow(floor)
    return fronts_told(floor, told, False).many()


def share_of(floor, told, piece):
    """The pair of how many LAYINGS have told and piece, and how many have told; CanNot() if none has."""
    floor = read_floor(floor)
    told = read_told(floor, told)
    piece = read_own_piece(floor, piece)
    need_narrow(floor)
    fronts = fronts_told(floor, told, True)
    whole = fronts.many()
    if whole == 0:
        raise CanNot()
    return (fronts.many_with(piece), whole)


def block_shares(floor, told, block):
    """The tuple of pairs of one of the PIECES of this BLOCK and how many LAYINGS have it and told."""
    floor = read_floor(floor)
    told = read_told(floor, told)
    block = read_pair(block)
    need_block(floor, block)
    need_narrow(floor)
    fronts = fronts_told(floor, told, True)
    return tuple([(piece, fronts.many_with(piece)) for piece in lying_of(floor, block)])


def many_above(floor, rise):
    """How many LAYINGS have a RISE that is nowhere below this one."""
    floor = read_floor(floor)
    rise = read_rise(floor, rise)
    need_narrow(floor)
    fronts = Fronts(floor, True)
    fronts.keep_above(rise)
    return fronts.many()


def height_counts(floor, face):
    """The tuple of pairs of a height and how many LAYINGS have this FACE so high."""
    floor = read_floor(floor)
    face = read_face(floor, face)
    need_narrow(floor)
    if face == RIM:
        return ((0, many_having(floor, ())),)
    fronts = Fronts(floor, True)
    rank, place = rank_and_place(fronts, floor, face)
    found = {}
    for front, many in fronts.many_by_front(rank).items():
        now = heights_along(front, 2 * min(floor))[place]
        found[now] = found.get(now, 0) + many
    return tuple(sorted(found.items()))


def added(one, other):
    """The list of the sums of what stands at each place in both lists, 0 standing behind the shorter one."""
    long, short = (one, other) if len(one) >= len(other) else (other, one)
    return [number + more for number, more in zip(long, short)] + long[len(short):]


def flats_past(tables, place):
    """For each front behind a SITE how many RISES have 0, 1, .. FLAT TIES up to it, as tables tell it ahead of it."""
    behind = {}
    for front, table in tables.items():
        if are_alike_at(front, place):
            behind[front] = table
            continue
        other = turned_front(front, place)
        # One FLAT TIE more if the front stays.
        behind[front] = added(behind.get(front, []), [0, *table])
        behind[other] = added(behind.get(other, []), table)
    return behind


def flat_counts(floor):
    """How many RISES have 0, 1, .. FLAT TIES, up to the number of all TIES."""
    floor = read_floor(floor)
    need_narrow(floor)
    wide = 2 * min(floor)
    shore = shore_fronts(wide)
    tables = {front: [1] for front in shore}
    for rank in range(2 * max(floor) - 1):
        for place in site_places(rank, wide):
            tables = flats_past(tables, place)
    found = [0] * (many_ties(floor) + 1)
    for front in shore:
        found = added(found, tables[front])
    return tuple(found)
