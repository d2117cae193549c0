"""LAYINGS of a FLOOR, and the search for them."""

from teefloors.errors import TooMany, Unfit
from teefloors.floors import all_blocks, all_cells, dot_pair, has_cell, need_block, need_cell, read_floor
from teefloors.pieces import are_pieces, block_in, lying_of, piece_cells, pieces_of, read_pieces, sign_told
from teefloors.values import is_ascending, is_number, read_pair, tupled

MOST_DOTS = 7
MOST_PLAIN_CELLS = 64


def covers(floor, value):
    """Whether value, whatever it is, is a LAYING of floor."""
    # As many PIECES as BLOCKS have as many CELLS as floor: all unlike, they are just its CELLS.
    if not isinstance(value, tuple) or len(value) != 4 * floor[0] * floor[1]:
        return False
    if not are_pieces(value) or not is_ascending(value):
        return False
    cells = [cell for piece in value for cell in piece_cells(piece)]
    return all([has_cell(floor, cell) for cell in cells]) and len(set(cells)) == len(cells)


def read_laying(floor, value):
    """The LAYING of floor that was handed in; Unfit() if it is none."""
    held = tupled(value, 2)
    if not covers(floor, held):
        raise Unfit()
    return held


def is_laying(floor, thing):
    """Whether thing is a LAYING of floor."""
    return covers(read_floor(floor), thing)


def blocks_laid(laying):
    """A dict from each BLOCK of a FLOOR to its PIECE in this LAYING of it."""
    return {block_in(piece): piece for piece in laying}


def every_choice(fixed, choices):
    """The list, ascending, of the LAYINGS with the fixed PIECES and, of each pair of lists of them, either one."""
    found = [fixed]
    for one, other in choices:
        found = [[*pieces, *more] for pieces in found for more in (one, other)]
    return sorted([tuple(sorted(pieces)) for pieces in found])


def times_covered(floor, pieces):
    """A dict from each CELL of floor, ascending, to how many of pieces have it."""
    times = {cell: 0 for cell in all_cells(floor)}
    for piece in pieces:
        for cell in piece_cells(piece):
            if cell in times:
                times[cell] += 1
    return times


def first_gap(floor, pieces):
    """The least CELL of floor that none of pieces has; None if there is none."""
    floor = read_floor(floor)
    times = times_covered(floor, read_pieces(pieces))
    return min([cell for cell, many in times.items() if many == 0], default=None)


def first_overlap(floor, pieces):
    """The least CELL of floor that more than one of pieces has; None if there is none."""
    floor = read_floor(floor)
    times = times_covered(floor, read_pieces(pieces))
    return min([cell for cell, many in times.items() if many > 1], default=None)


def piece_at(floor, laying, cell):
    """The PIECE of laying that has this CELL."""
    floor = read_floor(floor)
    laying = read_laying(floor, laying)
    cell = read_pair(cell)
    need_cell(floor, cell)
    return [piece for piece in laying if cell in piece_cells(piece)][0]


def piece_of_block(floor, laying, block):
    """The PIECE of laying that has three CELLS in this BLOCK."""
    floor = read_floor(floor)
    laying = read_laying(floor, laying)
    block = read_pair(block)
    need_block(floor, block)
    return blocks_laid(laying)[block]


def some_laying(floor):
    """A LAYING: round each DOT its four PIECES go leftward."""
    found = []
    for block in all_blocks(read_floor(floor)):
        for other, own in pieces_of(block).items():
            if dot_pair(other) == dot_pair(block) and sign_told(own) == 1:
                found.append(own)
    return tuple(sorted(found))


def coverings(cells, pieces):
    """The list, ascending, of the sets of these PIECES that have each of these CELLS, ascending, once."""
    places = {cell: at for at, cell in enumerate(cells)}
    beginning = {cell: [] for cell in cells}
    for piece in pieces:
        own_cells = piece_cells(piece)
        mask = sum([1 << places[cell] for cell in own_cells])
        beginning[own_cells[0]].append((piece, mask))
    found = []
    waiting = [(0, 0, ())]
    while waiting:
        at, covered, chosen = waiting.pop()
        while (covered >> at) & 1 == 1:
            at += 1
        if at == len(cells):
            found.append(tuple(sorted(chosen)))
            continue
        # The first gap can only be filled by a PIECE of which it is the least CELL.
        for piece, mask in beginning[cells[at]]:
            if (covered & mask) == 0:
                waiting.append((at + 1, covered | mask, (*chosen, piece)))
    return sorted(found)


def all_layings(floor):
    """The list, ascending, of all LAYINGS; TooMany() if they are more than 2,000."""
    floor = read_floor(floor)
    # Of a tree of TIES that hangs all DOTS together each TIE may be cut or tied: cut, it leaves one ROUND
    # more, gone one way or the other. So there are 2 times 3 to the number of these TIES at the least:
    # 4,374 with 8 DOTS. With 7 or fewer there are never more than 1,458.
    if floor[0] * floor[1] > MOST_DOTS:
        raise TooMany()
    # In a LAYING lie only PIECES that are one of the four of their BLOCK.
    lying = [piece for block in all_blocks(floor) for piece in lying_of(floor, block)]
    return coverings(all_cells(floor), lying)


def plain_layings(many, high):
    """The list, ascending, of the sets of PIECES that cover a field, many by high CELLS."""
    if not is_number(many) or not is_number(high):
        raise Unfit()
    if many < 1 or high < 1 or many * high > MOST_PLAIN_CELLS:
        raise Unfit()
    cells = [(x, y) for x in range(many) for y in range(high)]
    field = {cell: True for cell in cells}
    pieces = [(x, y, way) for x, y in cells for way in range(4)]
    inside = [piece for piece in pieces if all([cell in field for cell in piece_cells(piece)])]
    return coverings(cells, inside)
