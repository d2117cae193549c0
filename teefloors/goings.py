"""GOINGS, the ROUNDS of a LOT gone one way or the other, and heights told by them."""

from teefloors.errors import TooMany, Unfit
from teefloors.floors import all_blocks, need_block, read_face, read_floor, RIM
from teefloors.layings import blocks_laid, every_choice, read_laying
from teefloors.pieces import gone_to, sign_told
from teefloors.rounds import piece_gone, places_of_blocks, rounds_of_lot
from teefloors.ties import lot_laid, read_lot
from teefloors.values import are_numbers, read_pair, tupled

MOST_ROUNDS = 10


def are_goings_of(found, value):
    """Whether value, whatever it is, has 1 or -1 for each of the ROUNDS found, and nothing else."""
    return are_numbers(value, len(found)) and all([sign in (1, -1) for sign in value])


def read_goings(found, value):
    """The GOINGS of the ROUNDS found that were handed in; Unfit() if they are none."""
    held = tupled(value, 1)
    if not are_goings_of(found, held):
        raise Unfit()
    return held


def goings_laid(found, laying):
    """The GOINGS of the ROUNDS found in this LAYING."""
    laid = blocks_laid(laying)
    return tuple([sign_told(laid[own[0]]) for own in found])


def round_gone(lot, own, sign):
    """The list of the PIECES of the BLOCKS of this ROUND of a LOT, gone by this SIGN."""
    return [piece_gone(lot, block, sign) for block in own]


def laying_gone(lot, found, goings):
    """The LAYING in which the ROUNDS found of this LOT are gone so."""
    pieces = [piece for own, sign in zip(found, goings) for piece in round_gone(lot, own, sign)]
    return tuple(sorted(pieces))


def are_goings(floor, lot, thing):
    """Whether thing are GOINGS of lot."""
    floor = read_floor(floor)
    return are_goings_of(rounds_of_lot(floor, read_lot(floor, lot)), thing)


def goings_of(floor, laying):
    """The GOINGS of the LOT of laying, by its PIECES."""
    floor = read_floor(floor)
    laying = read_laying(floor, laying)
    return goings_laid(rounds_of_lot(floor, lot_laid(laying)), laying)


def laying_of_goings(floor, lot, goings):
    """The LAYING with this LOT and these GOINGS."""
    floor = read_floor(floor)
    lot = read_lot(floor, lot)
    found = rounds_of_lot(floor, lot)
    return laying_gone(lot, found, read_goings(found, goings))


def all_with_lot(floor, lot):
    """The list, ascending, of all LAYINGS with this LOT; TooMany() if they are more than 2,000."""
    floor = read_floor(floor)
    lot = read_lot(floor, lot)
    found = rounds_of_lot(floor, lot)
    # Each ROUND can be gone in two ways.
    if len(found) > MOST_ROUNDS:
        raise TooMany()
    return every_choice([], [(round_gone(lot, own, 1), round_gone(lot, own, -1)) for own in found])


def way_laid(laid, block):
    """The list of the BLOCKS of the ROUND of this one, as the PIECES laid go, from it on."""
    way = [block]
    after = gone_to(laid[block])
    while after != block:
        way.append(after)
        after = gone_to(laid[after])
    return way


def turned_at(laying, blocks):
    """The LAYING with the same LOT in which just these BLOCKS, of whole ROUNDS, have the other SIGN."""
    lot = lot_laid(laying)
    laid = blocks_laid(laying)
    for block in blocks:
        laid[block] = piece_gone(lot, block, 0 - sign_told(laid[block]))
    return tuple(sorted(laid.values()))


def way_gone(floor, laying, block):
    """The tuple of the BLOCKS of the ROUND of this one, as the PIECES go, from it on."""
    floor = read_floor(floor)
    laying = read_laying(floor, laying)
    block = read_pair(block)
    need_block(floor, block)
    return tuple(way_laid(blocks_laid(laying), block))


def round_turned(floor, laying, block):
    """The LAYING with the same LOT in which the ROUND of this BLOCK alone is gone the other way."""
    floor = read_floor(floor)
    laying = read_laying(floor, laying)
    block = read_pair(block)
    need_block(floor, block)
    return turned_at(laying, way_laid(blocks_laid(laying), block))


def all_turned(floor, laying):
    """The LAYING with the same LOT in which all ROUNDS are gone the other way."""
    floor = read_floor(floor)
    laying = read_laying(floor, laying)
    return turned_at(laying, all_blocks(floor))


def blocks_crossed(face):
    """The list of the BLOCKS at which STEPS cross, from this FACE straight to the RIM on the south and west."""
    if face == RIM:
        return []
    word, i, j = face
    # A DOT has BLOCKS on both sides of it; the one of an INNER FACE is that of the DOT next to it.
    i, j = (2 * i, 2 * j) if word == "dot" else (2 * i + 1, 2 * j + 1)
    return [(i - many, j - many) for many in range(min(i, j) + 1)]


def places_about(places, face):
    """The set of the places of ROUNDS that have this FACE within; places leads there from BLOCKS."""
    crossed = [places[block] for block in blocks_crossed(face)]
    return tuple(sorted({place for place in crossed if crossed.count(place) % 2 == 1}))


def outer_places(found):
    """The set of the places, among the ROUNDS found, of those that have the DOTS of their BLOCKS within."""
    places = places_of_blocks(found)
    outer = []
    for place, own in enumerate(found):
        i, j = own[0]
        if place in places_about(places, ("dot", i // 2, j // 2)):
            outer.append(place)
    return tuple(outer)


def turns_gone(found, goings):
    """The tuple of the turns of the ROUNDS found, gone so."""
    outer = outer_places(found)
    return tuple([sign if place in outer else 0 - sign for place, sign in enumerate(goings)])


def rounds_about(floor, lot, face):
    """The set of the numbers of the ROUNDS that have this FACE within."""
    floor = read_floor(floor)
    lot = read_lot(floor, lot)
    face = read_face(floor, face)
    return places_about(places_of_blocks(rounds_of_lot(floor, lot)), face)


def outer_rounds(floor, lot):
    """The set of the numbers of the ROUNDS that have the DOTS of their BLOCKS within."""
    floor = read_floor(floor)
    return outer_places(rounds_of_lot(floor, read_lot(floor, lot)))


def turns_of(floor, lot, goings):
    """The tuple of the turns of the ROUNDS of lot, gone so."""
    floor = read_floor(floor)
    found = rounds_of_lot(floor, read_lot(floor, lot))
    return turns_gone(found, read_goings(found, goings))


def height_by_rounds(floor, laying, face):
    """The height of this FACE, by the turns of the ROUNDS about it."""
    floor = read_floor(floor)
    laying = read_laying(floor, laying)
    face = read_face(floor, face)
    found = rounds_of_lot(floor, lot_laid(laying))
    turns = turns_gone(found, goings_laid(found, laying))
    return sum([turns[place] for place in places_about(places_of_blocks(found), face)])
