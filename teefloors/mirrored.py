"""MOVES: FLOORS turned by quarters, and mirrored."""

from teefloors.errors import Unfit
from teefloors.floors import has_cell, need_block, need_cell, read_floor
from teefloors.layings import all_layings, read_laying
from teefloors.pieces import piece_cells, read_pieces
from teefloors.values import read_below, read_pair


def read_move(value):
    """The MOVE that was handed in; Unfit() if it is none."""
    return read_below(value, 8)


def floor_led(floor, number):
    """The FLOOR to which this MOVE leads floor."""
    return floor if number % 2 == 0 else (floor[1], floor[0])


def way_led(way, number):
    """The WAY to which this MOVE leads a WAY."""
    return (way + number) % 4 if number < 4 else (2 - way + number) % 4


def spot_led(wide, high, spot, number):
    """Where this MOVE leads a place of a field, wide by high."""
    x, y = spot
    if number >= 4:
        x = wide - 1 - x
    for _ in range(number % 4):
        x, y = high - 1 - y, x
        wide, high = high, wide
    return (x, y)


def pieces_led(floor, pieces, number):
    """The set of the PIECES to which this MOVE leads these of floor."""
    wide, high = 4 * floor[0], 4 * floor[1]
    led = []
    for x, y, way in pieces:
        led.append((*spot_led(wide, high, (x, y), number), way_led(way, number)))
    return tuple(sorted(set(led)))


def floor_moved(floor, number):
    """The FLOOR to which floor comes by this MOVE."""
    floor = read_floor(floor)
    return floor_led(floor, read_move(number))


def way_moved(way, number):
    """The WAY to which way comes by this MOVE."""
    way = read_below(way, 4)
    return way_led(way, read_move(number))


def cell_moved(floor, cell, number):
    """The CELL to which this one of floor comes by this MOVE."""
    floor = read_floor(floor)
    cell = read_pair(cell)
    number = read_move(number)
    need_cell(floor, cell)
    return spot_led(4 * floor[0], 4 * floor[1], cell, number)


def block_moved(floor, block, number):
    """The BLOCK to which this one of floor comes by this MOVE."""
    floor = read_floor(floor)
    block = read_pair(block)
    number = read_move(number)
    need_block(floor, block)
    return spot_led(2 * floor[0], 2 * floor[1], block, number)


def pieces_moved(floor, pieces, number):
    """The set of the PIECES to which these, all on floor, come by this MOVE."""
    floor = read_floor(floor)
    pieces = read_pieces(pieces)
    cells = [cell for piece in pieces for cell in piece_cells(piece)]
    if not all([has_cell(floor, cell) for cell in cells]):
        raise Unfit()
    return pieces_led(floor, pieces, read_move(number))


def move_back(number):
    """The MOVE that takes this one back."""
    number = read_move(number)
    return number if number >= 4 else (4 - number) % 4


def moves_put(one, second):
    """The MOVE that one and then second are."""
    one = read_move(one)
    second = read_move(second)
    # What is mirrored behind a turn to the left has been turned to the right.
    quarters = (one + second) % 4 if second < 4 else (second - one) % 4
    return quarters if (one < 4) == (second < 4) else quarters + 4


def own_moves(floor):
    """The list, ascending, of the MOVES that lead floor to itself, as a pair."""
    return [number for number in range(8) if floor_led(floor, number) == floor]


def moves_between(floor, laying, other):
    """The set of the MOVES that lead floor to itself and laying to other."""
    floor = read_floor(floor)
    laying = read_laying(floor, laying)
    other = read_laying(floor, other)
    return tuple([number for number in own_moves(floor) if pieces_led(floor, laying, number) == other])


def are_alike(floor, laying, other):
    """Whether some MOVE leads floor to itself and laying to other."""
    return moves_between(floor, laying, other) != ()


def least_led(floor, laying):
    """The least LAYING of floor to which its own MOVES lead this one."""
    return min([pieces_led(floor, laying, number) for number in own_moves(floor)])


def least_seen(floor, laying):
    """The least LAYING of floor to which laying comes by MOVES of floor to itself."""
    floor = read_floor(floor)
    return least_led(floor, read_laying(floor, laying))


def unlike_layings(floor):
    """The list, ascending, of the least ones of all LAYINGS, each once; TooMany() as all_layings."""
    floor = read_floor(floor)
    return sorted({least_led(floor, laying) for laying in all_layings(floor)})
