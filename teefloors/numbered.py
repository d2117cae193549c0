"""LAYINGS by number, in the order of their rows, and which PIECES rows begin with."""

from teefloors.errors import CanNot, TooMany, Unfit
from teefloors.floors import all_blocks, read_floor
from teefloors.fronts import Fronts, fronts_told, need_narrow
from teefloors.layings import blocks_laid, read_laying
from teefloors.pieces import block_in, lies_on, lying_of, read_pieces
from teefloors.values import read_count

MOST_TOLD = 100


def row_laid(floor, laying):
    """The row of this LAYING of floor: its PIECES, BLOCK by BLOCK."""
    laid = blocks_laid(laying)
    return tuple([laid[block] for block in all_blocks(floor)])


def read_beginning(floor, value):
    """The tuple of PIECES of the first BLOCKS of floor that was handed in; Unfit() if it is none."""
    held = read_pieces(value)
    blocks = all_blocks(floor)
    if len(held) > len(blocks):
        raise Unfit()
    for block, piece in zip(blocks, held):
        if block_in(piece) != block or not lies_on(floor, piece):
            raise Unfit()
    return held


def go_on(fronts, row, pieces):
    """Put the first of these PIECES that can come next into row, and tell it to fronts; whether there is one."""
    for piece in pieces:
        fronts.tell(piece)
        if fronts.many(block_in(piece)) > 0:
            row.append(piece)
            return True
        fronts.take_back(piece)
    return False


def fill_up(floor, fronts, row, order):
    """Put PIECES into row, and tell them to fronts, up to the least whole row, or by order -1 the greatest one."""
    left = all_blocks(floor)[len(row):]
    for block in left:
        go_on(fronts, row, lying_of(floor, block)[::order])


def step_on(floor, fronts, row, order):
    """Change row, which fronts has been told, to the next one, or by order -1 to that ahead; whether there is one.

    Without one nothing is left in row.
    """
    while row != []:
        own = row.pop()
        fronts.take_back(own)
        pieces = lying_of(floor, block_in(own))[::order]
        if go_on(fronts, row, pieces[pieces.index(own) + 1:]):
            fill_up(floor, fronts, row, order)
            return True
    return False


def row_at(floor, fronts, number):
    """The row, a list, with this number, which is told to fronts; [] if none has it."""
    if number >= fronts.many():
        return []
    row = []
    for block in all_blocks(floor):
        for piece in lying_of(floor, block):
            fronts.tell(piece)
            many = fronts.many(block)
            if number < many:
                row.append(piece)
                break
            number -= many
            fronts.take_back(piece)
    return row


def outermost(floor, order):
    """The first LAYING of floor, or by order -1 the last one."""
    row = []
    fill_up(floor, Fronts(floor, True), row, order)
    return tuple(sorted(row))


def beside_in_order(floor, laying, order):
    """The LAYING behind this one of floor, or by order -1 that ahead of it; CanNot() if there is none."""
    row = list(row_laid(floor, laying))
    if not step_on(floor, fronts_told(floor, row, True), row, order):
        raise CanNot()
    return tuple(sorted(row))


def block_row(floor, laying):
    """The row of laying: its PIECES, BLOCK by BLOCK."""
    floor = read_floor(floor)
    return row_laid(floor, read_laying(floor, laying))


def how_many_begin(floor, pieces):
    """How many rows begin with these PIECES; TooMany() if both sides are above 7, as for all below."""
    floor = read_floor(floor)
    pieces = read_beginning(floor, pieces)
    need_narrow(floor)
    return fronts_told(floor, pieces, True).many()


def next_pieces(floor, pieces):
    """The set of the PIECES that come next in the rows that begin with these."""
    floor = read_floor(floor)
    pieces = read_beginning(floor, pieces)
    need_narrow(floor)
    fronts = fronts_told(floor, pieces, True)
    left = all_blocks(floor)[len(pieces):]
    coming = [] if left == [] else lying_of(floor, left[0])
    return tuple([piece for piece in coming if fronts.many_with(piece) > 0])


def laying_number(floor, laying):
    """The number of laying: how many stand ahead of it."""
    floor = read_floor(floor)
    laying = read_laying(floor, laying)
    need_narrow(floor)
    fronts = Fronts(floor, True)
    number = 0
    for own in row_laid(floor, laying):
        pieces = lying_of(floor, block_in(own))
        number += sum([fronts.many_with(piece) for piece in pieces[:pieces.index(own)]])
        fronts.tell(own)
    return number


def laying_at(floor, number):
    """The LAYING with this number; CanNot() if none has it."""
    floor = read_floor(floor)
    number = read_count(number)
    need_narrow(floor)
    row = row_at(floor, Fronts(floor, True), number)
    if row == []:
        raise CanNot()
    return tuple(sorted(row))


def first_laying(floor):
    """The LAYING ahead of all."""
    floor = read_floor(floor)
    need_narrow(floor)
    return outermost(floor, 1)


def last_laying(floor):
    """The LAYING behind all."""
    floor = read_floor(floor)
    need_narrow(floor)
    return outermost(floor, -1)


def next_laying(floor, laying):
    """The LAYING behind this one; CanNot() if there is none."""
    floor = read_floor(floor)
    laying = read_laying(floor, laying)
    need_narrow(floor)
    return beside_in_order(floor, laying, 1)


def laying_ahead(floor, laying):
    """The LAYING ahead of this one; CanNot() if there is none."""
    floor = read_floor(floor)
    laying = read_laying(floor, laying)
    need_narrow(floor)
    return beside_in_order(floor, laying, -1)


def layings_from(floor, number, many):
    """The list of the LAYINGS with the numbers from number on, at most so many; TooMany() above 100."""
    floor = read_floor(floor)
    number = read_count(number)
    many = read_count(many)
    if many > MOST_TOLD:
        raise TooMany()
    need_narrow(floor)
    fronts = Fronts(floor, True)
    row = row_at(floor, fronts, number)
    found = []
    while row != [] and len(found) < many:
        found.append(tuple(sorted(row)))
        step_on(floor, fronts, row, 1)
    return found
