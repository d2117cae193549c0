"""PIECES, and which of them are one of the four of a BLOCK."""

from teefloors.errors import CanNot, Unfit
from teefloors.floors import away, dot_pair, has_block, has_cell, need_block, read_block, read_floor, tie_over
from teefloors.values import are_numbers, read_pair, tupled

STEPS = ((1, 0), (0, 1), (-1, 0), (0, -1))


def is_piece(thing):
    """Whether thing is a PIECE."""
    return are_numbers(thing, 3) and 0 <= thing[2] <= 3


def read_piece(value):
    """The PIECE that was handed in; Unfit() if it is none."""
    held = tupled(value, 1)
    if not is_piece(held):
        raise Unfit()
    return held


def are_pieces(value):
    """Whether value is a tuple, maybe (), of PIECES."""
    return isinstance(value, tuple) and all([is_piece(item) for item in value])


def read_pieces(value):
    """The tuple of PIECES that was handed in; Unfit() if it is none."""
    held = tupled(value, 2)
    if not are_pieces(held):
        raise Unfit()
    return held


def piece_cells(piece):
    """The set of the CELLS of this PIECE."""
    x, y, way = piece
    beside = [STEPS[(way + turn) % 4] for turn in (0, 1, 3)]
    return tuple(sorted([(x, y)] + [(x + east, y + north) for east, north in beside]))


def middle_of(block, sign):
    """The middle of the two PIECES of this BLOCK that tell this SIGN."""
    i, j = block
    east = 1 if 0 - away(j) * sign == 1 else 0
    north = 1 if away(i) * sign == 1 else 0
    return (2 * i + east, 2 * j + north)


def corner_of(spot):
    """Where in its BLOCK a CELL, or a PIECE's middle, lies: 1 or -1 for east or west, for north or south."""
    return (2 * (spot[0] % 2) - 1, 2 * (spot[1] % 2) - 1)


def block_in(spot):
    """The BLOCK in which a CELL, or a PIECE's middle, lies, on the FLOOR or not."""
    return (spot[0] // 2, spot[1] // 2)


def pieces_of(block):
    """The four PIECES of this BLOCK: a dict from each BLOCK beside it to the one that goes there."""
    i, j = block
    found = {}
    for sign in (1, -1):
        x, y = middle_of(block, sign)
        east, north = corner_of((x, y))
        # A PIECE has no CELL over against its stem: of both sides, it goes out by the other.
        found[(i + east, j)] = (x, y, STEPS.index((0, 0 - north)))
        found[(i, j + north)] = (x, y, STEPS.index((0 - east, 0)))
    return found


def gone_to(piece):
    """The BLOCK to which this PIECE goes; None if it is none of the four of a BLOCK."""
    for other, own in pieces_of(block_in(piece)).items():
        if own == piece:
            return other
    return None


def sign_told(piece):
    """The SIGN told by this PIECE, one of the four of a BLOCK."""
    return away(block_in(piece)[0]) * corner_of(piece)[1]


def lies_on(floor, piece):
    """Whether this PIECE can lie on floor."""
    other = gone_to(piece)
    return other is not None and has_block(floor, block_in(piece)) and has_block(floor, other)


def turned_over(laid, four):
    """The PIECES that come if, at a place where these four BLOCKS meet, each goes the other way.

    laid leads from each BLOCK to its PIECE. What comes is a dict of those BLOCKS whose PIECES go
    to another one of the four: from there each leads to the PIECE that goes to the third one beside it.
    """
    anew = {}
    for block in four:
        goal = gone_to(laid[block])
        if goal in four:
            ways = pieces_of(block)
            anew[block] = [ways[other] for other in four if other in ways and other != goal][0]
    return anew


def read_lying(floor, value):
    """The PIECE that was handed in; Unfit(), or CanNot() if it can't lie on floor."""
    held = read_piece(value)
    if not lies_on(floor, held):
        raise CanNot()
    return held


def cells_of(piece):
    """The set of the four CELLS of this PIECE."""
    return piece_cells(read_piece(piece))


def on_floor(floor, piece):
    """Whether all CELLS of this PIECE are CELLS of floor."""
    floor = read_floor(floor)
    return all([has_cell(floor, cell) for cell in cells_of(piece)])


def lying_of(floor, block):
    """The list, ascending, of those of the four PIECES of this BLOCK that can lie on floor."""
    return sorted([own for other, own in pieces_of(block).items() if has_block(floor, other)])


def four_of(floor, block):
    """The set of those of the four PIECES of this BLOCK that can lie."""
    floor = read_floor(floor)
    return tuple(lying_of(floor, read_block(floor, block)))


def can_lie(floor, piece):
    """Whether this PIECE can lie on floor."""
    floor = read_floor(floor)
    return lies_on(floor, read_piece(piece))


def own_block(floor, piece):
    """The BLOCK of which this PIECE is one of the four; CanNot() if it can't lie."""
    return block_in(read_lying(read_floor(floor), piece))


def left_out(floor, piece):
    """The CELL of its own BLOCK that this PIECE has not; CanNot() if it can't lie."""
    x, y, _ = read_lying(read_floor(floor), piece)
    east, north = corner_of((x, y))
    return (x - east, y - north)


def goes_to(floor, piece):
    """The BLOCK to which this PIECE goes; CanNot() if it can't lie."""
    return gone_to(read_lying(read_floor(floor), piece))


def sign_of(floor, piece):
    """The SIGN that this PIECE tells; CanNot() if it can't lie."""
    return sign_told(read_lying(read_floor(floor), piece))


def told_of_tie(floor, piece):
    """What this PIECE, which can lie on floor, tells of a TIE; None if it tells of none."""
    block, other = block_in(piece), gone_to(piece)
    if dot_pair(block) != dot_pair(other):
        return (tie_over(block, other), "tied")
    i, j = block
    east, north = corner_of(piece)
    beyond = (i + east, j) if other == (i, j + north) else (i, j + north)
    return (tie_over(block, beyond), "cut") if has_block(floor, beyond) else None


def tie_told(floor, piece):
    """The pair of a TIE and "tied" or "cut" that this PIECE tells; None if it tells none."""
    floor = read_floor(floor)
    return told_of_tie(floor, read_lying(floor, piece))


def piece_to(floor, block, other):
    """The PIECE of block that goes to other; CanNot() if other is not beside it."""
    floor = read_floor(floor)
    block = read_pair(block)
    other = read_pair(other)
    need_block(floor, block)
    need_block(floor, other)
    own = pieces_of(block).get(other)
    if own is None:
        raise CanNot()
    return own
