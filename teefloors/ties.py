"""LOTS, sets of TIES, with the parts and lands that they make."""

from teefloors.errors import TooMany, Unfit
from teefloors.floors import all_dots, all_inners, away, dot_pair, has_tie, looks_like_tie, need_block
from teefloors.floors import many_ties, RIM, read_floor, side_faces, tie_over, ties
from teefloors.layings import read_laying
from teefloors.pieces import block_in, gone_to
from teefloors.values import is_ascending, read_pair, tupled

MOST_TIES = 12


def is_lot_of(floor, value):
    """Whether value, whatever it is, is a LOT of floor."""
    if not isinstance(value, tuple):
        return False
    if not all([looks_like_tie(item) and has_tie(floor, item) for item in value]):
        return False
    return is_ascending(value)


def read_lot(floor, value):
    """The LOT of floor that was handed in; Unfit() if it is none."""
    held = tupled(value, 3)
    if not is_lot_of(floor, held):
        raise Unfit()
    return held


def is_lot(floor, thing):
    """Whether thing is a LOT of floor."""
    return is_lot_of(read_floor(floor), thing)


def lots(floor):
    """The list, ascending, of all LOTS; TooMany() above 12 TIES."""
    floor = read_floor(floor)
    if many_ties(floor) > MOST_TIES:
        raise TooMany()
    found = [()]
    for tie in reversed(ties(floor)):
        found = found + [(tie, *lot) for lot in found]
    return sorted(found)


def lot_laid(laying):
    """The LOT of this LAYING: the TIES over which its PIECES go."""
    gone_over = [tie_over(block_in(piece), gone_to(piece)) for piece in laying]
    return tuple(sorted({tie for tie in gone_over if tie[0] != tie[1]}))


def lot_of(floor, laying):
    """The LOT of laying: the TIES that its PIECES tell as tied."""
    floor = read_floor(floor)
    return lot_laid(read_laying(floor, laying))


def other_lot(floor, lot):
    """The LOT of all TIES that are not of lot."""
    floor = read_floor(floor)
    lot = read_lot(floor, lot)
    return tuple([tie for tie in ties(floor) if tie not in lot])


def put_together(floor, lot, other):
    """The LOT of the TIES that are in just one of both."""
    floor = read_floor(floor)
    lot = read_lot(floor, lot)
    other = read_lot(floor, other)
    return tuple(sorted(set(lot) ^ set(other)))


def join_names(named, one, other):
    """Give one name to all that bear that of one or of other; whether these were two names."""
    kept, given_up = named[one], named[other]
    for member in list(named):
        if named[member] == given_up:
            named[member] = kept
    return kept != given_up


def hanging_together(members, links):
    """The tuple, ascending, of the sets of those members, handed in ascending, that hang together by links."""
    # All that hang together bear one name, so no way has to be gone again.
    named = {member: member for member in members}
    for one, other in links:
        join_names(named, one, other)
    rows = {}
    for member in members:
        rows.setdefault(named[member], []).append(member)
    return tuple([tuple(row) for row in rows.values()])


def parts_of_lot(floor, lot):
    """The tuple, ascending, of the parts of this LOT of floor."""
    return hanging_together(all_dots(floor), lot)


def parts(floor, lot):
    """The tuple, ascending, of the parts of lot: sets of DOTS, as pairs."""
    floor = read_floor(floor)
    return parts_of_lot(floor, read_lot(floor, lot))


def part_of(floor, lot, block):
    """The part of the DOT which this BLOCK touches."""
    floor = read_floor(floor)
    lot = read_lot(floor, lot)
    block = read_pair(block)
    need_block(floor, block)
    return [part for part in parts_of_lot(floor, lot) if dot_pair(block) in part][0]


def lands_of_lot(floor, lot):
    """The tuple, ascending, of the lands of this LOT of floor."""
    crossed = [side_faces(floor, tie) for tie in ties(floor) if tie not in lot]
    return hanging_together([*all_inners(floor), RIM], crossed)


def lands(floor, lot):
    """The tuple, ascending, of the lands of lot: sets of INNER FACES and the RIM."""
    floor = read_floor(floor)
    return lands_of_lot(floor, read_lot(floor, lot))


def joined_by(lot, block):
    """The two BLOCKS with which this LOT, or a dict from its TIES, joins this one, east or west of it first."""
    i, j = block
    east, north = away(i), away(j)
    beside, above = (i + east, j), (i, j + north)
    # Where the RIM is, no TIE is in lot: the BLOCKS of one DOT are joined, as at a cut one.
    first = beside if tie_over(block, beside) in lot else (i, j - north)
    second = above if tie_over(block, above) in lot else (i - east, j)
    return (first, second)


def joined_blocks(floor, lot, block):
    """The two BLOCKS with which this one is joined, east or west of it first."""
    floor = read_floor(floor)
    lot = read_lot(floor, lot)
    block = read_pair(block)
    need_block(floor, block)
    return joined_by(lot, block)
