"""RISES, the heights of a LAYING on FACES, and BOOKS of their FLAT TIES."""

from teefloors.errors import TooMany, Unfit
from teefloors.floors import all_blocks, all_dots, dot_pair, looks_like_tie, outer_face, read_face, read_floor
from teefloors.floors import RIM, side_faces, site_blocks, ties
from teefloors.layings import blocks_laid, every_choice, read_laying
from teefloors.pieces import sign_told, turned_over
from teefloors.rounds import piece_gone
from teefloors.ties import lot_laid
from teefloors.values import are_numbers, is_ascending, tupled

MOST_FLAT = 10


def are_heights(value, many, high, odd):
    """Whether value is a tuple of so many tuples of so many numbers, all odd, if odd is 1, or all even."""
    if not isinstance(value, tuple) or len(value) != many:
        return False
    if not all([are_numbers(row, high) for row in value]):
        return False
    return all([height_told % 2 == odd for row in value for height_told in row])


def height_at(rise, face):
    """The height at this FACE in this RISE."""
    if face == RIM:
        return 0
    word, i, j = face
    return rise[0][i][j] if word == "dot" else rise[1][i][j]


def sign_at(floor, rise, block):
    """The height of the DOT of this BLOCK less that of its outer FACE."""
    i, j = dot_pair(block)
    return rise[0][i][j] - height_at(rise, outer_face(floor, block))


def is_rise_of(floor, value):
    """Whether value, whatever it is, is a RISE of floor."""
    many, high = floor
    if not isinstance(value, tuple) or len(value) != 2:
        return False
    if not are_heights(value[0], many, high, 1) or not are_heights(value[1], many - 1, high - 1, 0):
        return False
    return all([sign_at(floor, value, block) in (1, -1) for block in all_blocks(floor)])


def read_rise(floor, value):
    """The RISE of floor that was handed in; Unfit() if it is none."""
    held = tupled(value, 3)
    if not is_rise_of(floor, held):
        raise Unfit()
    return held


def is_flat(floor, rise, tie):
    """Whether this TIE of floor is FLAT for this RISE."""
    (i, j), (k, h) = tie
    return rise[0][i][j] == rise[0][k][h] and not is_tied(floor, rise, tie)


def is_tied(floor, rise, tie):
    """Whether the sides of this TIE of floor are unlike for this RISE."""
    first, second = side_faces(floor, tie)
    return height_at(rise, first) != height_at(rise, second)


def flat_of(floor, rise):
    """The set of the FLAT TIES of this RISE of floor."""
    return tuple([tie for tie in ties(floor) if is_flat(floor, rise, tie)])


def tied_of(floor, rise):
    """The set of the TIES of floor whose sides are unlike for this RISE."""
    return tuple([tie for tie in ties(floor) if is_tied(floor, rise, tie)])


def is_book_of(floor, rise, value):
    """Whether value, whatever it is, is a BOOK of this RISE of floor."""
    if not isinstance(value, tuple) or not all([looks_like_tie(item) for item in value]):
        return False
    flat = {tie: True for tie in flat_of(floor, rise)}
    return is_ascending(value) and all([tie in flat for tie in value])


def read_book(floor, rise, value):
    """The BOOK of this RISE of floor that was handed in; Unfit() if it is none."""
    held = tupled(value, 3)
    if not is_book_of(floor, rise, held):
        raise Unfit()
    return held


def rise_laid(floor, laying):
    """The RISE of this LAYING of floor."""
    many, high = floor
    signs = {block: sign_told(piece) for block, piece in blocks_laid(laying).items()}
    dots = [[0] * high for _ in range(many)]
    # Along the south and the west of the DOTS lies the RIM, with 0.
    outers = [[0] * (high + 1) for _ in range(many + 1)]
    for i, j in all_dots(floor):
        dots[i][j] = outers[i][j] + signs[(2 * i, 2 * j)]
        outers[i + 1][j + 1] = dots[i][j] - signs[(2 * i + 1, 2 * j + 1)]
    inners = [tuple(row[1:high]) for row in outers[1:many]]
    return (tuple([tuple(row) for row in dots]), tuple(inners))


def book_laid(floor, laying):
    """The BOOK of this LAYING of floor."""
    lot = lot_laid(laying)
    return tuple([tie for tie in flat_of(floor, rise_laid(floor, laying)) if tie in lot])


def pieces_by_rise(floor, rise, book):
    """A dict from each BLOCK to its PIECE in the LAYING of floor with this RISE and BOOK."""
    lot = {tie: True for tie in [*tied_of(floor, rise), *book]}
    return {block: piece_gone(lot, block, sign_at(floor, rise, block)) for block in all_blocks(floor)}


def layings_by_rise(floor, rise, book, free):
    """The list, ascending, of the LAYINGS of floor with this RISE and with book, or more of the free FLAT TIES."""
    laid = pieces_by_rise(floor, rise, book)
    # Each FLAT TIE has two PIECES of its own: told as cut or as tied, it leaves all others as they are.
    turned = [turned_over(laid, site_blocks(tie)) for tie in free]
    moved = {block: True for anew in turned for block in anew}
    fixed = [piece for block, piece in laid.items() if block not in moved]
    return every_choice(fixed, [([laid[block] for block in anew], list(anew.values())) for anew in turned])


def is_rise(floor, thing):
    """Whether thing is a RISE of floor."""
    return is_rise_of(read_floor(floor), thing)


def is_book(floor, rise, thing):
    """Whether thing is a BOOK of rise."""
    floor = read_floor(floor)
    return is_book_of(floor, read_rise(floor, rise), thing)


def rise_of(floor, laying):
    """The RISE of laying."""
    floor = read_floor(floor)
    return rise_laid(floor, read_laying(floor, laying))


def book_of(floor, laying):
    """The BOOK of laying."""
    floor = read_floor(floor)
    return book_laid(floor, read_laying(floor, laying))


def height(floor, rise, face):
    """The height of rise at this FACE, 0 for the RIM."""
    floor = read_floor(floor)
    rise = read_rise(floor, rise)
    return height_at(rise, read_face(floor, face))


def signs_of(floor, rise):
    """The tuple of 2 m tuples of 2 n SIGNS, BLOCK by BLOCK."""
    floor = read_floor(floor)
    rise = read_rise(floor, rise)
    columns = [[(i, j) for j in range(2 * floor[1])] for i in range(2 * floor[0])]
    return tuple([tuple([sign_at(floor, rise, block) for block in column]) for column in columns])


def flat_ties(floor, rise):
    """The set of the FLAT TIES of rise."""
    floor = read_floor(floor)
    return flat_of(floor, read_rise(floor, rise))


def tied_ties(floor, rise):
    """The set of the TIES whose sides are unlike for rise."""
    floor = read_floor(floor)
    return tied_of(floor, read_rise(floor, rise))


def laying_of_rise(floor, rise, book):
    """The LAYING with this RISE and BOOK."""
    floor = read_floor(floor)
    rise = read_rise(floor, rise)
    book = read_book(floor, rise, book)
    return tuple(sorted(pieces_by_rise(floor, rise, book).values()))


def layings_of(floor, rise):
    """The list, ascending, of all LAYINGS with this RISE; TooMany() if it has more than 10 FLAT TIES."""
    floor = read_floor(floor)
    rise = read_rise(floor, rise)
    flat = flat_of(floor, rise)
    if len(flat) > MOST_FLAT:
        raise TooMany()
    return layings_by_rise(floor, rise, (), flat)


def many_of(floor, rise):
    """How many LAYINGS have this RISE."""
    return 1 << len(flat_ties(floor, rise))
