"""The fewest SQUARES from one LAYING to another, and PLANS with just so many."""

from teefloors.floors import faces, read_floor, side_faces, ties
from teefloors.lattice import can_move, heights_of, steps_from_rim
from teefloors.layings import blocks_laid, read_laying
from teefloors.rises import rise_laid
from teefloors.squares import are_deeds, broken_place, read_plan
from teefloors.ties import lot_laid


def shares_of(floor, laying, other):
    """A dict, FACES ascending, from each whose heights differ to half of how much other is above laying there."""
    heights = heights_of(floor, rise_laid(floor, laying))
    goals = heights_of(floor, rise_laid(floor, other))
    return {face: (goals[face] - heights[face]) // 2 for face in heights if goals[face] != heights[face]}


def squares_between(floor, laying, other):
    """The fewest SQUARES from laying to other."""
    return sum([abs(number) for number in shares_of(floor, laying, other).values()])


def squares_among(plan):
    """How many DEEDS of plan are SQUARES."""
    return len([word for word, _ in plan if word == "square"])


def order_of_squares(floor, laying, other):
    """The list of the FACES at which SQUARES lead from laying to other, one after another, PAIRS between them.

    Of the FACES to be raised one with the least height has all beside it 1 above it, as none of these
    that is below it is to be raised; likewise one with the greatest height of those to be lowered.
    """
    heights = heights_of(floor, rise_laid(floor, laying))
    order = []
    for sign in (1, -1):
        due = []
        for face, number in shares_of(floor, laying, other).items():
            due.extend([(sign * heights[face] + 2 * many, face) for many in range(sign * number)])
        order.extend([face for _, face in sorted(due)])
    return order


def ties_about(floor):
    """A dict from each FACE of floor to the list of the TIES with it for an end or a side."""
    about = {face: [] for face in faces(floor)}
    for tie in ties(floor):
        one, other = tie
        for face in (("dot", *one), ("dot", *other), *side_faces(floor, tie)):
            about[face].append(tie)
    return about


def pairs_where(tied, unfit):
    """The list of the PAIRS of these TIES; in tied, whether each TIE is tied, they are turned."""
    for tie in unfit:
        tied[tie] = not tied[tie]
    return [("pair", tie) for tie in unfit]


def fewest(floor, laying, other):
    """The least number of SQUARES in a PLAN from laying to other, PAIRS not counted."""
    floor = read_floor(floor)
    laying = read_laying(floor, laying)
    return squares_between(floor, laying, read_laying(floor, other))


def shares(floor, laying, other):
    """The tuple of pairs of a FACE whose heights differ and half of how much other is above laying there."""
    floor = read_floor(floor)
    laying = read_laying(floor, laying)
    return tuple(shares_of(floor, laying, read_laying(floor, other)).items())


def first_faces(floor, laying, other):
    """The set of the FACES whose SQUARE can be the first one of a PLAN with the fewest."""
    floor = read_floor(floor)
    laying = read_laying(floor, laying)
    other = read_laying(floor, other)
    rise = rise_laid(floor, laying)
    due = shares_of(floor, laying, other)
    return tuple([face for face in due if can_move(floor, rise, face, 1 if due[face] > 0 else -1)])


def plan(floor, laying, other):
    """A PLAN that leads from laying to other with the fewest SQUARES."""
    floor = read_floor(floor)
    laying = read_laying(floor, laying)
    other = read_laying(floor, other)
    lot, goal = lot_laid(laying), lot_laid(other)
    tied = {tie: tie in lot for tie in ties(floor)}
    about = ties_about(floor)
    found = []
    for face in order_of_squares(floor, laying, other):
        # With all FACES beside it of one height, each TIE about it that is not as it must be is FLAT.
        barring = face[0] == "dot"
        found.extend(pairs_where(tied, [tie for tie in about[face] if tied[tie] == barring]))
        found.append(("square", face))
    # Both have one RISE now: TIES in which they still differ are FLAT.
    found.extend(pairs_where(tied, [tie for tie in ties(floor) if tied[tie] != (tie in goal)]))
    return tuple(found)


def is_plan(floor, laying, other, thing):
    """Whether thing is a PLAN that leads from laying to other with the fewest SQUARES."""
    floor = read_floor(floor)
    laying = read_laying(floor, laying)
    other = read_laying(floor, other)
    if not are_deeds(floor, thing) or squares_among(thing) != squares_between(floor, laying, other):
        return False
    laid = blocks_laid(laying)
    return broken_place(floor, laid, thing) is None and laid == blocks_laid(other)


def many_squares(floor, plan):
    """How many SQUARES this plan has, whether or not it is a PLAN from somewhere."""
    return squares_among(read_plan(read_floor(floor), plan))


def farthest(floor):
    """The greatest fewest of two LAYINGS: from one of the least RISE to one of the greatest."""
    floor = read_floor(floor)
    return sum([steps_from_rim(floor, face) for face in faces(floor)])
