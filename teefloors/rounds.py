"""ROUNDS, the circles into which a LOT joins the BLOCKS of a FLOOR."""

from teefloors.floors import all_blocks, all_dots, away, need_block, read_floor, read_tie
from teefloors.pieces import pieces_of
from teefloors.ties import join_names, joined_by, lands_of_lot, parts_of_lot, read_lot
from teefloors.values import read_below, read_pair


def gone_on(lot, block, sign):
    """The BLOCK to which this one goes on by this SIGN in its ROUND, leftward by SIGN 1."""
    first, second = joined_by(lot, block)
    return second if away(block[0]) * away(block[1]) * sign == 1 else first


def piece_gone(lot, block, sign):
    """The PIECE of this BLOCK by this SIGN in a LAYING with this LOT."""
    return pieces_of(block)[gone_on(lot, block, sign)]


def walk_left(lot, block):
    """The list of the BLOCKS of the ROUND of this one, leftward, from it on."""
    walk = [block]
    after = gone_on(lot, block, 1)
    while after != block:
        walk.append(after)
        after = gone_on(lot, after, 1)
    return walk


def rounds_of_lot(floor, lot):
    """The tuple of the ROUNDS of this LOT of floor."""
    # A TIE is found sooner in a dict than in a tuple.
    quick = {tie: True for tie in lot}
    seen = {}
    found = []
    for block in all_blocks(floor):
        # As BLOCKS come ascending, so do the ROUNDS by their least ones.
        if block not in seen:
            walk = walk_left(quick, block)
            for own in walk:
                seen[own] = True
            found.append(tuple(sorted(walk)))
    return tuple(found)


def places_of_blocks(found):
    """A dict from each BLOCK to the place of its ROUND among those found."""
    return {block: place for place, own in enumerate(found) for block in own}


def rounds(floor, lot):
    """The tuple of the ROUNDS of lot."""
    floor = read_floor(floor)
    return rounds_of_lot(floor, read_lot(floor, lot))


def round_at(floor, lot, block):
    """The place of the ROUND that has this BLOCK."""
    floor = read_floor(floor)
    lot = read_lot(floor, lot)
    block = read_pair(block)
    need_block(floor, block)
    return places_of_blocks(rounds_of_lot(floor, lot))[block]


def how_many_rounds(floor, lot):
    """How many ROUNDS lot has."""
    return len(rounds(floor, lot))


def next_left(floor, lot, block):
    """The BLOCK that is next to this one in its ROUND, leftward."""
    floor = read_floor(floor)
    lot = read_lot(floor, lot)
    block = read_pair(block)
    need_block(floor, block)
    return gone_on(lot, block, 1)


def next_right(floor, lot, block):
    """The BLOCK from which one comes to this one in its ROUND, leftward."""
    floor = read_floor(floor)
    lot = read_lot(floor, lot)
    block = read_pair(block)
    need_block(floor, block)
    return gone_on(lot, block, -1)


def round_walk(floor, lot, block):
    """The tuple of the BLOCKS of the ROUND of this one, leftward, from it on."""
    floor = read_floor(floor)
    lot = read_lot(floor, lot)
    block = read_pair(block)
    need_block(floor, block)
    return tuple(walk_left(lot, block))


def rings_in(floor, lot):
    """How many rings lot closes."""
    floor = read_floor(floor)
    lot = read_lot(floor, lot)
    # TIES that hang as many DOTS together without a ring are one fewer in each part than DOTS.
    return len(lot) - floor[0] * floor[1] + len(parts_of_lot(floor, lot))


def rounds_by_lands(floor, lot):
    """How many ROUNDS lot has, told by its parts and lands."""
    floor = read_floor(floor)
    lot = read_lot(floor, lot)
    return len(parts_of_lot(floor, lot)) + len(lands_of_lot(floor, lot)) - 1


def more_rounds(named, tie):
    """How many ROUNDS more there are with this TIE put in; named leads from DOTS to names, one for each part."""
    # Between two parts it makes one ROUND of two, within a part two of one.
    return -1 if join_names(named, *tie) else 1


def rounds_tie_by_tie(floor, lot):
    """How many ROUNDS there are with none of the TIES of lot, with the least one, and so on, with all."""
    floor = read_floor(floor)
    lot = read_lot(floor, lot)
    named = {dot: dot for dot in all_dots(floor)}
    many = [len(named)]
    for tie in lot:
        many.append(many[-1] + more_rounds(named, tie))
    return tuple(many)


def tie_turned(floor, lot, tie):
    """How many ROUNDS there are more if this TIE is put in, or taken out if it is of lot."""
    floor = read_floor(floor)
    lot = read_lot(floor, lot)
    tie = read_tie(floor, tie)
    other = [own for own in lot if own != tie] if tie in lot else [*lot, tie]
    return len(rounds_of_lot(floor, other)) - len(rounds_of_lot(floor, lot))


def read_walk(floor, lot, number):
    """The ROUND with this number as a list, leftward, of pairs of a BLOCK and the next; Unfit() if it is none."""
    found = rounds_of_lot(floor, lot)
    walk = walk_left(lot, found[read_below(number, len(found))][0])
    return list(zip(walk, walk[1:] + walk[:1]))


def round_area(floor, lot, number):
    """The doubled area that this ROUND, gone leftward, has to its left, less that to its right."""
    floor = read_floor(floor)
    lot = read_lot(floor, lot)
    return sum([i * h - k * j for (i, j), (k, h) in read_walk(floor, lot, number)])


def dots_within(floor, lot, number):
    """The set of the DOTS, as pairs, round which this ROUND goes."""
    floor = read_floor(floor)
    lot = read_lot(floor, lot)
    # From a DOT to the east one crosses the ROUND between two BLOCKS, one over the other, beside a DOT.
    crossed = [(i, min(j, h)) for (i, j), (k, h) in read_walk(floor, lot, number) if i == k]
    within = []
    for i, j in all_dots(floor):
        beyond = [own for own in crossed if own[0] > 2 * i and own[1] == 2 * j]
        if len(beyond) % 2 == 1:
            within.append((i, j))
    return tuple(within)
