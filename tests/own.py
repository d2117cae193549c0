"""The tests' own look at FLOORS, LOTS, ROUNDS, RISES and LAYINGS, word by word, to set beside the package's."""

import functools
import itertools
import random

from tests.helpers import cells, found_layings

RIM = ("rim",)
SMALL = [(1, 1), (1, 2), (2, 1), (1, 3), (3, 1), (2, 2), (2, 3), (3, 2)]
GREAT = [(3, 3), (2, 5), (4, 4), (5, 3), (6, 7), (8, 8)]


def own_dots(floor):
    return [(i, j) for i in range(floor[0]) for j in range(floor[1])]


def own_ties(floor):
    beside = [(one, two) for one in own_dots(floor) for two in own_dots(floor) if side_by_side(one, two)]
    return sorted(pair for pair in beside if pair[0] < pair[1])


def own_lots(floor):
    told = own_ties(floor)
    return sorted(tuple(lot) for many in range(len(told) + 1) for lot in itertools.combinations(told, many))


def drawn_lot(draw, floor):
    share = draw.random()
    return tuple(tie for tie in own_ties(floor) if draw.random() < share)


def drawn_lots(floor, many):
    """Some LOTS of a FLOOR, the same ones each time, with none and with all TIES."""
    drawn = [drawn_lot(random.Random(seed), floor) for seed in range(many)]
    return [(), tuple(own_ties(floor)), *drawn]


def own_blocks(floor):
    return [(i, j) for i in range(2 * floor[0]) for j in range(2 * floor[1])]


def side_by_side(one, two):
    return abs(one[0] - two[0]) + abs(one[1] - two[1]) == 1


def own_dot(block):
    return ("dot", block[0] // 2, block[1] // 2)


def own_outer(floor, block):
    """The INNER FACE at the corner away from the DOT, or the RIM."""
    i = block[0] // 2 if block[0] % 2 else block[0] // 2 - 1
    j = block[1] // 2 if block[1] % 2 else block[1] // 2 - 1
    return ("inner", i, j) if 0 <= i < floor[0] - 1 and 0 <= j < floor[1] - 1 else RIM


@functools.lru_cache(None)
def own_faces(floor):
    return sorted({own_dot(block) for block in own_blocks(floor)} | {own_outer(floor, own) for own in own_blocks(floor)})


@functools.lru_cache(None)
def own_steps(floor):
    """For each FACE the set of those to which a STEP leads."""
    found = {face: set() for face in own_faces(floor)}
    for block in own_blocks(floor):
        found[own_dot(block)].add(own_outer(floor, block))
        found[own_outer(floor, block)].add(own_dot(block))
    return found


def own_ends(tie):
    return tuple(("dot", *end) for end in tie)


@functools.lru_cache(None)
def own_site(tie):
    """The BLOCKS of both ends that lie side by side with one of the other end."""
    first, second = [[(2 * i + x, 2 * j + y) for x in (0, 1) for y in (0, 1)] for i, j in tie]
    pairs = [(one, two) for one in first for two in second if side_by_side(one, two)]
    return sorted({block for pair in pairs for block in pair})


@functools.lru_cache(None)
def own_sides(floor, tie):
    """The outer FACES of the BLOCKS of its SITE: each twice."""
    told = sorted(own_outer(floor, block) for block in own_site(tie))
    return told[0], told[3]


def hanging(members, links):
    """The sets of members that hang together, each sought from one on."""
    beside = {member: [] for member in members}
    for one, two in links:
        beside[one].append(two)
        beside[two].append(one)
    left, found = set(members), []
    while left:
        reached, waiting = set(), [min(left)]
        while waiting:
            at = waiting.pop()
            if at not in reached:
                reached.add(at)
                waiting.extend(beside[at])
        left -= reached
        found.append(tuple(sorted(reached)))
    return tuple(sorted(found))


def own_parts(floor, lot):
    return hanging(own_dots(floor), lot)


def own_lands(floor, lot):
    crossed = [own_sides(floor, tie) for tie in own_ties(floor) if tie not in lot]
    return hanging([face for face in own_faces(floor) if face[0] != "dot"], crossed)


def own_rings(floor, lot):
    """How many TIES can be taken away, one by one, with the parts staying as many."""
    many, rings = len(own_parts(floor, lot)), 0
    for tie in lot:
        less = tuple(own for own in lot if own != tie)
        if len(own_parts(floor, less)) == many:
            lot, rings = less, rings + 1
    return rings


@functools.lru_cache(None)
def own_greatest(floor):
    """The heights of the greatest RISE: the fewest STEPS from the RIM, sought FACE by FACE."""
    heights, rim = {RIM: 0}, [RIM]
    while rim:
        rim = sorted({face for own in rim for face in own_steps(floor)[own] if face not in heights})
        heights.update({face: 1 + min(heights[own] for own in own_steps(floor)[face] if own in heights) for face in rim})
    return heights


@functools.lru_cache(None)
def joints(floor):
    """Pairs of BLOCKS side by side: for each TIE those of one DOT and those over it, and those along the RIM."""
    by_tie, kept = {}, set()
    for tie in own_ties(floor):
        pairs = [pair for pair in itertools.combinations(own_site(tie), 2) if side_by_side(*pair)]
        within = [pair for pair in pairs if own_dot(pair[0]) == own_dot(pair[1])]
        by_tie[tie] = within, [pair for pair in pairs if pair not in within]
        kept.update(within)
    square = [pair for pair in itertools.combinations(own_blocks((1, 1)), 2) if side_by_side(*pair)]
    along = []
    for i, j in own_dots(floor):
        for (a, b), (c, d) in square:
            pair = ((2 * i + a, 2 * j + b), (2 * i + c, 2 * j + d))
            if pair not in kept:
                along.append(pair)
    return by_tie, along


def own_joined(floor, lot):
    """For each BLOCK the list of those with which it is joined, SITE by SITE and along the RIM."""
    by_tie, along = joints(floor)
    pairs = along + [pair for tie, (cut, tied) in by_tie.items() for pair in (tied if tie in lot else cut)]
    found = {block: [] for block in own_blocks(floor)}
    for one, two in pairs:
        found[one].append(two)
        found[two].append(one)
    return found


def own_rounds(floor, lot):
    links = [(one, two) for one, others in own_joined(floor, lot).items() for two in others]
    return hanging(own_blocks(floor), links)


def own_middle(block, sign):
    """The CELL that is the middle of the PIECES of this SIGN."""
    i, j = block
    e, f = 1 if i % 2 else -1, 1 if j % 2 else -1
    return (2 * i + (1 if 0 - f * sign == 1 else 0), 2 * j + (1 if e * sign == 1 else 0))


def own_goals(block, sign):
    """The BLOCKS on the two sides at which that middle is, on the FLOOR or not."""
    i, j = block
    x, y = own_middle(block, sign)
    return [(i + 1, j) if x > 2 * i else (i - 1, j), (i, j + 1) if y > 2 * j else (i, j - 1)]


def own_piece(block, goal):
    """The PIECE of this BLOCK that goes to that one."""
    i, j = block
    (sign,) = [own for own in (1, -1) if goal in own_goals(block, own)]
    x, y = own_middle(block, sign)
    square = {(2 * i + a, 2 * j + b) for a in (0, 1) for b in (0, 1)}
    (more,) = [own for own in ((x + 1, y), (x - 1, y), (x, y + 1), (x, y - 1)) if (own[0] // 2, own[1] // 2) == goal]
    wanted = square - {(4 * i + 1 - x, 4 * j + 1 - y)} | {more}
    (way,) = [way for way in range(4) if cells((x, y, way)) == wanted]
    return (x, y, way)


def own_next(floor, lot, sign):
    """For each BLOCK the one with which it is joined of those to which its PIECES of this SIGN go."""
    found = {}
    for block, joined in own_joined(floor, lot).items():
        (found[block],) = [other for other in joined if other in own_goals(block, sign)]
    return found


def own_signs(laying):
    """For each BLOCK the SIGN that its PIECE tells."""
    found = {}
    for x, y, way in laying:
        block = (x // 2, y // 2)
        assert len({own for own in cells((x, y, way)) if (own[0] // 2, own[1] // 2) == block}) == 3
        (found[block],) = [sign for sign in (1, -1) if own_middle(block, sign) == (x, y)]
    return found


def own_lot(laying):
    """The pairs of DOTS that have CELLS of one PIECE."""
    dots = [tuple(sorted({(x // 4, y // 4) for x, y in cells(own)})) for own in laying]
    return tuple(sorted({pair for pair in dots if len(pair) == 2}))


def own_laying(floor, lot, signs):
    """The LAYING with this LOT and these SIGNS, BLOCK by BLOCK."""
    gone = {sign: own_next(floor, lot, sign) for sign in (1, -1)}
    return tuple(sorted(own_piece(block, gone[sign][block]) for block, sign in signs.items()))


def own_heights(floor, laying):
    """The height of each FACE, going from FACE to FACE by BLOCKS."""
    signs = own_signs(laying)
    heights = {RIM: 0}
    while len(heights) < len(own_faces(floor)):
        for block, sign in signs.items():
            dot, outer = own_dot(block), own_outer(floor, block)
            if outer in heights:
                heights[dot] = heights[outer] + sign
            if dot in heights:
                heights[outer] = heights[dot] - sign
    return heights


def as_rise(floor, heights):
    dots = tuple(tuple(heights["dot", i, j] for j in range(floor[1])) for i in range(floor[0]))
    inners = tuple(tuple(heights["inner", i, j] for j in range(floor[1] - 1)) for i in range(floor[0] - 1))
    return (dots, inners)


def as_heights(rise):
    heights = {("dot", i, j): own for i, row in enumerate(rise[0]) for j, own in enumerate(row)}
    heights.update({("inner", i, j): own for i, row in enumerate(rise[1]) for j, own in enumerate(row)})
    heights[RIM] = 0
    return heights


@functools.lru_cache(None)
def own_rises(floor):
    """All RISES, FACE by FACE, ascending."""
    beside, most = own_steps(floor), min(floor)
    found = [{RIM: 0}]
    for face in own_faces(floor):
        if face != RIM:
            odd = 1 if face[0] == "dot" else 0
            fit = [own for own in range(-most, most + 1) if own % 2 == odd]
            found = [{**heights, face: own} for heights in found for own in fit
                     if all(abs(own - heights[other]) == 1 for other in beside[face] if other in heights)]
    return sorted(as_rise(floor, heights) for heights in found)


def drawn_rise(draw, floor):
    """A RISE reached from one with 0 at all INNER FACES by many FACES raised and lowered."""
    heights = {face: draw.choice((1, -1)) if face[0] == "dot" else 0 for face in own_faces(floor)}
    faces = [face for face in own_faces(floor) if face != RIM]
    for _ in range(20 * len(faces)):
        face = draw.choice(faces)
        beside = {heights[other] for other in own_steps(floor)[face]}
        if len(beside) == 1:
            heights[face] = beside.pop() + draw.choice((1, -1))
    return as_rise(floor, heights)


def own_flat(floor, rise):
    heights = as_heights(rise)
    found = []
    for tie in own_ties(floor):
        ends, sides = own_ends(tie), own_sides(floor, tie)
        if len({heights[end] for end in ends}) == 1 and len({heights[side] for side in sides}) == 1:
            found.append(tie)
    return tuple(found)


def rise_with_flat(floor, few, most):
    """A RISE with so many FLAT TIES, met on a way of FACES raised and lowered from the greatest one."""
    draw, heights = random.Random(1), dict(own_greatest(floor))
    faces = [face for face in own_faces(floor) if face != RIM]
    for _ in range(20000):
        if few <= len(own_flat(floor, as_rise(floor, heights))) <= most:
            return as_rise(floor, heights)
        face = draw.choice(faces)
        beside = {heights[other] for other in own_steps(floor)[face]}
        if len(beside) == 1:
            heights[face] = beside.pop() + draw.choice((1, -1))
    raise AssertionError(f"no rise of {floor} with {few} to {most} flat ties was met")


def own_tied(floor, rise):
    heights = as_heights(rise)
    return tuple(tie for tie in own_ties(floor) if len({heights[side] for side in own_sides(floor, tie)}) == 2)


def own_laying_of_rise(floor, rise, book):
    heights = as_heights(rise)
    signs = {block: heights[own_dot(block)] - heights[own_outer(floor, block)] for block in own_blocks(floor)}
    return own_laying(floor, tuple(sorted({*own_tied(floor, rise), *book})), signs)


def drawn_laying(draw, floor):
    rise = drawn_rise(draw, floor)
    book = [tie for tie in own_flat(floor, rise) if draw.random() < 0.5]
    return own_laying_of_rise(floor, rise, book)


def some_of(items):
    """All tuples of some of the items, in their order."""
    return [some for many in range(len(items) + 1) for some in itertools.combinations(items, many)]


@functools.lru_cache(None)
def own_how_many_rises(floor):
    """How many RISES there are, FACE by FACE along the longer side, the heights that still matter kept."""
    floor = (max(floor), min(floor))
    order = sorted((face for face in own_faces(floor) if face != RIM), key=lambda own: (own[1], own[0], own[2]))
    beside, most = own_steps(floor), min(floor)
    last = {face: max([order.index(other) for other in beside[face] if other != RIM], default=0) for face in order}
    found = {(): 1}
    for at, face in enumerate(order):
        kept = [own for own in order[:at + 1] if max(last[own], order.index(own)) > at]
        before = [own for own in order[:at] if max(last[own], order.index(own)) > at - 1]
        grown = {}
        for told, many in found.items():
            heights = dict(zip(before, told))
            heights[RIM] = 0
            for own in range(-most, most + 1):
                fit = own % 2 == (1 if face[0] == "dot" else 0)
                if fit and all(abs(own - heights[other]) == 1 for other in beside[face] if other in heights):
                    heights[face] = own
                    row = tuple(heights[one] for one in kept)
                    del heights[face]
                    grown[row] = grown.get(row, 0) + many
        found = grown
    return sum(found.values())


def own_goal(piece):
    """The BLOCK in which a PIECE has just one CELL."""
    blocks = [(x // 2, y // 2) for x, y in cells(piece)]
    (goal,) = [block for block in set(blocks) if blocks.count(block) == 1]
    return goal


def own_goings(floor, laying):
    """The SIGN of each ROUND of the LOT of a LAYING; all its BLOCKS tell it."""
    signs = own_signs(laying)
    told = [{signs[block] for block in own} for own in own_rounds(floor, own_lot(laying))]
    assert all(len(own) == 1 for own in told)
    return tuple(min(own) for own in told)


def own_laying_of_goings(floor, lot, goings):
    signs = {block: sign for own, sign in zip(own_rounds(floor, lot), goings) for block in own}
    return own_laying(floor, lot, signs)


def own_within(floor, lot):
    """For each FACE the set of the numbers of the ROUNDS that have it within, whichever STEPS one takes."""
    place = {block: number for number, own in enumerate(own_rounds(floor, lot)) for block in own}
    crossed = {}
    for block in own_blocks(floor):
        pair = own_dot(block), own_outer(floor, block)
        assert crossed.setdefault(pair, place[block]) == place[block]
        crossed[pair[::-1]] = place[block]
    within, waiting = {RIM: frozenset()}, [RIM]
    while waiting:
        face = waiting.pop()
        for other in own_steps(floor)[face]:
            if other not in within:
                within[other] = within[face] ^ {crossed[face, other]}
                waiting.append(other)
    for (face, other), number in crossed.items():
        assert within[face] ^ within[other] == {number}
    return within


def own_outer_rounds(floor, lot):
    """The numbers of the ROUNDS that have the DOTS of all their BLOCKS within, and none of their outer FACES."""
    within, found = own_within(floor, lot), []
    for number, own in enumerate(own_rounds(floor, lot)):
        dots = {number in within[own_dot(block)] for block in own}
        outers = {number in within[own_outer(floor, block)] for block in own}
        assert len(dots) == len(outers) == len(dots | outers) - 1 == 1
        if dots == {True}:
            found.append(number)
    return tuple(found)


def each_lot(drawn):
    """All LOTS of small FLOORS, and drawn ones of greater ones."""
    for floor in SMALL:
        for lot in own_lots(floor):
            yield floor, lot
    for floor in GREAT:
        for lot in drawn_lots(floor, drawn):
            yield floor, lot


def each_rise(drawn):
    """All RISES of small FLOORS, and drawn ones of greater ones."""
    for floor in SMALL:
        for rise in own_rises(floor):
            yield floor, rise
    for floor in GREAT:
        for seed in range(drawn):
            yield floor, drawn_rise(random.Random(seed), floor)


@functools.lru_cache(None)
def own_layings(floor):
    """All LAYINGS of a small FLOOR, sought CELL by CELL, ascending."""
    return found_layings(4 * floor[0], 4 * floor[1])


def each_laying(drawn, most=100):
    """LAYINGS of small FLOORS, all or at most so many of each, and drawn ones of greater ones."""
    for floor in SMALL:
        told = own_layings(floor)
        for laying in told[::1 + (len(told) - 1) // most]:
            yield floor, laying
    for floor in GREAT:
        for seed in range(drawn):
            yield floor, drawn_laying(random.Random(seed), floor)
