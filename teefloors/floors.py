"""FLOORS, with their CELLS, BLOCKS, FACES and TIES."""

from teefloors.errors import NoBlock, NoCell, NoFace, NoTie, Unfit
from teefloors.values import are_numbers, read_pair, tupled

RIM = ("rim",)


def is_floor(thing):
    """Whether thing is a FLOOR."""
    return are_numbers(thing, 2) and min(thing) >= 1


def read_floor(value):
    """The FLOOR that was handed in; Unfit() if it is none."""
    held = tupled(value, 1)
    if not is_floor(held):
        raise Unfit()
    return held


def has_cell(floor, cell):
    """Whether this pair of numbers is a CELL of floor."""
    return 0 <= cell[0] < 4 * floor[0] and 0 <= cell[1] < 4 * floor[1]


def has_block(floor, block):
    """Whether this pair of numbers is a BLOCK of floor."""
    return 0 <= block[0] < 2 * floor[0] and 0 <= block[1] < 2 * floor[1]


def looks_like_face(value):
    """Whether value has the form of a FACE, of whatever FLOOR."""
    if not isinstance(value, tuple) or len(value) not in (1, 3) or not isinstance(value[0], str):
        return False
    if len(value) == 1:
        return value[0] == "rim"
    return value[0] in ("dot", "inner") and are_numbers(value[1:], 2)


def has_face(floor, face):
    """Whether floor has this, which has the form of a FACE."""
    if face == RIM:
        return True
    word, i, j = face
    fewer = 0 if word == "dot" else 1
    return 0 <= i < floor[0] - fewer and 0 <= j < floor[1] - fewer


def looks_like_tie(value):
    """Whether value is a pair of pairs of numbers."""
    if not isinstance(value, tuple) or len(value) != 2:
        return False
    return all([are_numbers(end, 2) for end in value])


def has_tie(floor, tie):
    """Whether this pair of pairs of numbers is a TIE of floor."""
    (i, j), other = tie
    if other not in ((i, j + 1), (i + 1, j)):
        return False
    return i >= 0 and j >= 0 and other[0] < floor[0] and other[1] < floor[1]


def is_cell(floor, thing):
    """Whether thing is a CELL of floor."""
    floor = read_floor(floor)
    return are_numbers(thing, 2) and has_cell(floor, thing)


def is_block(floor, thing):
    """Whether thing is a BLOCK of floor."""
    floor = read_floor(floor)
    return are_numbers(thing, 2) and has_block(floor, thing)


def is_face(floor, thing):
    """Whether thing is a FACE of floor."""
    floor = read_floor(floor)
    return looks_like_face(thing) and has_face(floor, thing)


def is_tie(floor, thing):
    """Whether thing is a TIE of floor."""
    floor = read_floor(floor)
    return looks_like_tie(thing) and has_tie(floor, thing)


def need_cell(floor, cell):
    """NoCell(cell) if floor has no such CELL."""
    if not has_cell(floor, cell):
        raise NoCell(cell)


def need_block(floor, block):
    """NoBlock(block) if floor has no such BLOCK."""
    if not has_block(floor, block):
        raise NoBlock(block)


def read_face(floor, value):
    """The FACE of floor that was handed in; Unfit() or NoFace(face) if it is none."""
    held = tupled(value, 1)
    if not looks_like_face(held):
        raise Unfit()
    if not has_face(floor, held):
        raise NoFace(held)
    return held


def read_tie(floor, value):
    """The TIE of floor that was handed in; Unfit() or NoTie(tie) if it is none."""
    held = tupled(value, 2)
    if not looks_like_tie(held):
        raise Unfit()
    if not has_tie(floor, held):
        raise NoTie(held)
    return held


def read_block(floor, value):
    """The BLOCK of floor that was handed in; Unfit() or NoBlock(block) if it is none."""
    held = read_pair(value)
    need_block(floor, held)
    return held


def away(number):
    """On which side of its DOT a BLOCK with this number lies: 1 east or north, else -1."""
    return 1 if number % 2 == 1 else -1


def all_cells(floor):
    """The list of the CELLS of floor, ascending."""
    return [(x, y) for x in range(4 * floor[0]) for y in range(4 * floor[1])]


def all_blocks(floor):
    """The list of the BLOCKS of floor, ascending."""
    return [(i, j) for i in range(2 * floor[0]) for j in range(2 * floor[1])]


def all_dots(floor):
    """The list of the DOTS of floor, ascending, as pairs."""
    return [(i, j) for i in range(floor[0]) for j in range(floor[1])]


def all_inners(floor):
    """The list of the INNER FACES of floor, ascending."""
    return [("inner", i, j) for i in range(floor[0] - 1) for j in range(floor[1] - 1)]


def dot_pair(block):
    """The DOT that this BLOCK touches, as a pair."""
    return (block[0] // 2, block[1] // 2)


def dot_face(block):
    """The DOT that this BLOCK touches, as a FACE."""
    return ("dot", *dot_pair(block))


def outer_face(floor, block):
    """The outer FACE of this BLOCK."""
    face = ("inner", (block[0] - 1) // 2, (block[1] - 1) // 2)
    return face if has_face(floor, face) else RIM


def tie_over(block, other):
    """The pair of the DOTS of both BLOCKS, the lesser DOT first."""
    first, second = sorted([dot_pair(block), dot_pair(other)])
    return (first, second)


def side_faces(floor, tie):
    """The two sides of this TIE of floor, the one on the south or west first."""
    (i, j), other = tie
    # The two BLOCKS of the first end at the SITE touch one side each.
    first = (2 * i + 1, 2 * j) if other[0] > i else (2 * i, 2 * j + 1)
    return (outer_face(floor, first), outer_face(floor, (2 * i + 1, 2 * j + 1)))


def site_blocks(tie):
    """The list of the four BLOCKS of the SITE of this TIE, ascending."""
    (i, j), (k, h) = tie
    if k > i:
        return [(a, b) for a in (2 * i + 1, 2 * k) for b in (2 * j, 2 * j + 1)]
    return [(a, b) for a in (2 * i, 2 * i + 1) for b in (2 * j + 1, 2 * h)]


def many_ties(floor):
    """How many TIES floor has."""
    return 2 * floor[0] * floor[1] - floor[0] - floor[1]


def sizes(floor):
    """How many CELLS, BLOCKS, FACES and TIES there are."""
    floor = read_floor(floor)
    many, high = floor
    many_faces = many * high + (many - 1) * (high - 1) + 1
    return (16 * many * high, 4 * many * high, many_faces, many_ties(floor))


def block_of(floor, cell):
    """The BLOCK that has this CELL."""
    floor = read_floor(floor)
    cell = read_pair(cell)
    need_cell(floor, cell)
    return (cell[0] // 2, cell[1] // 2)


def cells_of_block(floor, block):
    """The set of the CELLS of this BLOCK."""
    i, j = read_block(read_floor(floor), block)
    return tuple([(x, y) for x in (2 * i, 2 * i + 1) for y in (2 * j, 2 * j + 1)])


def dot_of(floor, block):
    """The DOT that this BLOCK touches, as a FACE."""
    return dot_face(read_block(read_floor(floor), block))


def outer_of(floor, block):
    """The outer FACE of this BLOCK."""
    floor = read_floor(floor)
    return outer_face(floor, read_block(floor, block))


def faces(floor):
    """The set of all FACES."""
    floor = read_floor(floor)
    dots = [("dot", i, j) for i, j in all_dots(floor)]
    return (*dots, *all_inners(floor), RIM)


def ties(floor):
    """The set of all TIES."""
    floor = read_floor(floor)
    pairs = [((i, j), other) for i, j in all_dots(floor) for other in ((i, j + 1), (i + 1, j))]
    return tuple([tie for tie in pairs if has_tie(floor, tie)])


def touching_blocks(floor, face):
    """The list of the BLOCKS that touch this FACE of floor, ascending."""
    if face == RIM:
        return [block for block in all_blocks(floor) if outer_face(floor, block) == RIM]
    word, i, j = face
    more = 0 if word == "dot" else 1
    i, j = 2 * i + more, 2 * j + more
    return [(i, j), (i, j + 1), (i + 1, j), (i + 1, j + 1)]


def blocks_at(floor, face):
    """The set of the BLOCKS that touch this FACE."""
    floor = read_floor(floor)
    return tuple(touching_blocks(floor, read_face(floor, face)))


def touching_faces(floor, face):
    """The set of the other FACES that the BLOCKS touch that touch this FACE of floor."""
    blocks = touching_blocks(floor, face)
    if face[0] == "dot":
        return tuple(sorted({outer_face(floor, block) for block in blocks}))
    return tuple(sorted({dot_face(block) for block in blocks}))


def touching(floor, face):
    """The set of the other FACES that the BLOCKS touch that touch this one."""
    floor = read_floor(floor)
    return touching_faces(floor, read_face(floor, face))


def ends(floor, tie):
    """The pair of the DOTS, as FACES, of this TIE."""
    (i, j), (k, h) = read_tie(read_floor(floor), tie)
    return (("dot", i, j), ("dot", k, h))


def sides(floor, tie):
    """The pair of the sides of this TIE, the one on the south or west first."""
    floor = read_floor(floor)
    return side_faces(floor, read_tie(floor, tie))


def site(floor, tie):
    """The set of the four BLOCKS of the SITE of this TIE."""
    return tuple(site_blocks(read_tie(read_floor(floor), tie)))
