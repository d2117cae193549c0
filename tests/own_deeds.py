"""The tests' own look at DEEDS and PLANS, at PIECES, to set beside the package's."""

import functools

from tests.helpers import cells
from tests.own import (
    RIM, own_blocks, own_dot, own_faces, own_goal, own_goals, own_heights, own_layings, own_middle, own_outer,
    own_piece, own_site, own_ties,
)


def by_blocks(laying):
    """For each BLOCK its PIECE."""
    return {(x // 2, y // 2): (x, y, way) for x, y, way in laying}


def own_forms(floor):
    """All that has the form of a DEED, ascending."""
    squares = [("square", face) for face in own_faces(floor) if face != RIM]
    return sorted([("pair", tie) for tie in own_ties(floor)] + squares)


@functools.lru_cache(None)
def own_touching(floor, face):
    return [block for block in own_blocks(floor) if face in (own_dot(block), own_outer(floor, block))]


def sign_in(block, piece):
    (sign,) = [sign for sign in (1, -1) if own_middle(block, sign) == piece[:2]]
    return sign


def own_square(floor, laid, face):
    """The PIECES laid anew by a SQUARE: the four go round, each to the next, and then the other way."""
    four = own_touching(floor, face)
    if len({sign_in(block, laid[block]) for block in four}) > 1:
        return {}
    way = [four[0]]
    while len(way) < 5 and way[-1] in four:
        way.append(own_goal(laid[way[-1]]))
    if sorted(way[:4]) != sorted(four) or way[4:] != way[:1]:
        return {}
    return {block: own_piece(block, before) for before, block in zip(way, way[1:])}


def own_pair(laid, tie):
    """The PIECES laid anew by a PAIR: the two that go on within the SITE, over the TIE or not."""
    four = own_site(tie)
    if len({sign_in(block, laid[block]) for block in four}) > 1:
        return {}
    anew = {}
    for block in four:
        goal = own_goal(laid[block])
        if goal in four:
            (other,) = [own for own in own_goals(block, sign_in(block, laid[block])) if own != goal]
            anew[block] = own_piece(block, other)
    return anew


def own_anew(floor, laid, deed):
    """For each BLOCK the PIECE that a DEED lays anew, on the same CELLS; {} if it is no DEED there."""
    word, where = deed
    anew = own_square(floor, laid, where) if word == "square" else own_pair(laid, where)
    if anew:
        assert len(anew) == (4 if word == "square" else 2)
        assert sorted(cell for block in anew for cell in cells(laid[block])) == sorted(
            cell for piece in anew.values() for cell in cells(piece))
        assert all(laid[block] != piece for block, piece in anew.items())
    return anew


def own_deeds(floor, laying):
    """For each DEED of a LAYING the LAYING behind it."""
    laid, found = by_blocks(laying), {}
    for deed in own_forms(floor):
        anew = own_anew(floor, laid, deed)
        if anew:
            found[deed] = tuple(sorted({**laid, **anew}.values()))
    return found


def own_way(floor, laying, plan):
    """The LAYINGS on the way of a PLAN, as far as there are such DEEDS."""
    laid, way = by_blocks(laying), [laying]
    for deed in plan:
        anew = own_anew(floor, laid, deed)
        if not anew:
            break
        laid.update(anew)
        way.append(tuple(sorted(laid.values())))
    return way


def drawn_plan(draw, floor, laying, many):
    """A PLAN of so many DEEDS from a LAYING on, and where it leads."""
    plan, laid, forms = [], by_blocks(laying), own_forms(floor)
    while len(plan) < many:
        deed = draw.choice(forms)
        anew = own_anew(floor, laid, deed)
        if anew:
            laid.update(anew)
            plan.append(deed)
    return tuple(plan), tuple(sorted(laid.values()))


@functools.lru_cache(None)
def own_graph(floor):
    """For each LAYING of a small FLOOR its DEEDS, with the LAYING behind each."""
    return {laying: own_deeds(floor, laying) for laying in own_layings(floor)}


@functools.lru_cache(None)
def own_distances(floor, laying):
    """For each LAYING the fewest SQUARES that lead there, PAIRS free, sought through all LAYINGS."""
    graph, found, edge, many = own_graph(floor), {}, [laying], 0
    while edge:
        onward = []
        while edge:
            at = edge.pop()
            if at not in found:
                found[at] = many
                for (word, _), other in graph[at].items():
                    (edge if word == "pair" else onward).append(other)
        edge, many = [own for own in onward if own not in found], many + 1
    return found


def unlike_heights(floor, laying, other):
    """The FACES whose heights differ, with how much other is above laying there."""
    one, two = own_heights(floor, laying), own_heights(floor, other)
    return {face: two[face] - one[face] for face in own_faces(floor) if two[face] != one[face]}
