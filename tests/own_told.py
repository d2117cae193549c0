"""The tests' own look at what LAYINGS have TOLD PIECES, through lists of all, to set beside the package's."""

import functools
import itertools
import random

from tests.helpers import cells
from tests.own import (
    GREAT, SMALL, as_heights, drawn_laying, own_blocks, own_faces, own_flat, own_heights, own_layings, own_lot,
    own_rises, own_ties,
)
from tests.test_told import drawn_told, own_pieces


@functools.lru_cache(None)
def layings_as_sets(floor):
    """All LAYINGS of a small FLOOR, each with the set of its PIECES."""
    return [(laying, frozenset(laying)) for laying in own_layings(floor)]


def own_having(floor, told):
    """All LAYINGS of a small FLOOR that have told, ascending."""
    wanted = set(told)
    return [laying for laying, pieces in layings_as_sets(floor) if wanted <= pieces]


@functools.lru_cache(None)
def heights_of_laying(floor, laying):
    return own_heights(floor, laying)


@functools.lru_cache(None)
def words_of_laying(floor, laying):
    """The pairs of each TIE and how it is told."""
    lot = own_lot(laying)
    return frozenset((tie, "tied" if tie in lot else "cut") for tie in own_ties(floor))


@functools.lru_cache(None)
def heights_and_flats(floor):
    """For each RISE of a FLOOR its heights and how many FLAT TIES it has."""
    return [(as_heights(rise), len(own_flat(floor, rise))) for rise in own_rises(floor)]


def own_above(floor, rise):
    """How many LAYINGS have a RISE that is nowhere below this one."""
    least = as_heights(rise)
    return sum(2 ** flat for heights, flat in heights_and_flats(floor)
               if all(heights[face] >= least[face] for face in own_faces(floor)))


def own_row(floor, laying):
    """The PIECES of a LAYING, BLOCK by BLOCK."""
    laid = {(x // 2, y // 2): (x, y, way) for x, y, way in laying}
    return tuple(laid[block] for block in own_blocks(floor))


@functools.lru_cache(None)
def own_in_order(floor):
    """All LAYINGS of a small FLOOR as their rows stand."""
    return sorted(own_layings(floor), key=lambda laying: own_row(floor, laying))


def is_own_laying(floor, laying):
    """Whether these PIECES cover each CELL of a FLOOR just once, and nothing else."""
    found = sorted(cell for piece in laying for cell in cells(piece))
    return found == list(itertools.product(range(4 * floor[0]), range(4 * floor[1])))


def told_both_ways(draw, floor):
    """Some PIECES of one LAYING, and one that tells a TIE of theirs the other way; None if none does."""
    laying = drawn_laying(draw, floor)
    of_tie = {}
    for piece, (_, _, pair) in own_pieces(floor).items():
        if pair is not None:
            of_tie.setdefault(pair, []).append(piece)
    some = [piece for piece in laying if draw.random() < 0.3]
    for piece in draw.sample(laying, len(laying)):
        pair = own_pieces(floor)[piece][2]
        if pair is not None:
            other = (pair[0], "cut" if pair[1] == "tied" else "tied")
            return tuple(sorted({*some, piece, draw.choice(of_tie[other])}))
    return None


def block_told_twice(draw, floor):
    """Some PIECES of one LAYING, and another one of a BLOCK of theirs."""
    laying = drawn_laying(draw, floor)
    x, y, way = draw.choice(laying)
    others = [own for own in own_pieces(floor) if (own[0] // 2, own[1] // 2) == (x // 2, y // 2)]
    some = [piece for piece in laying if draw.random() < 0.3]
    return tuple(sorted({*some, (x, y, way), draw.choice([own for own in others if own != (x, y, way)])}))


def each_drawn_told(many, floors=None):
    """TOLD of small FLOORS: none, one of all PIECES of a LAYING, and drawn ones of all kinds."""
    for floor in floors or SMALL:
        yield floor, ()
        for seed in range(many):
            draw = random.Random(f"{floor} {seed} told")
            kind = seed % 6
            laying = drawn_laying(draw, floor)
            if kind < 2:
                yield floor, tuple(piece for piece in laying if draw.random() < (0.1, 0.4)[kind])
            elif kind == 2:
                yield floor, laying if seed % 4 == 0 else tuple(draw.sample(list(own_pieces(floor)), 1))
            elif kind == 3:
                yield floor, block_told_twice(draw, floor)
            elif kind == 4:
                told = told_both_ways(draw, floor)
                yield floor, told if told is not None else ()
            else:
                yield floor, drawn_told(draw, floor)


def each_great_told(many):
    """TOLD of PIECES of one LAYING of a greater FLOOR each, with that LAYING."""
    for floor in GREAT:
        for seed in range(many):
            draw = random.Random(f"{floor} {seed} great")
            laying, share = drawn_laying(draw, floor), draw.choice((0.02, 0.1, 0.3, 0.8))
            yield floor, laying, tuple(piece for piece in laying if draw.random() < share)
