"""DEEDS, squares and pairs of PIECES laid anew, and PLANS of them."""

from teefloors.errors import Broken, CanNot, Unfit
from teefloors.floors import faces, has_face, has_tie, looks_like_face, looks_like_tie, read_floor, RIM
from teefloors.floors import site_blocks, ties, touching_blocks
from teefloors.layings import blocks_laid, read_laying
from teefloors.pieces import sign_told, turned_over
from teefloors.values import tupled


def looks_like_deed(floor, value):
    """Whether value, whatever it is, has the form of a DEED on floor."""
    if not isinstance(value, tuple) or len(value) != 2:
        return False
    word, where = value
    if word == "square":
        return looks_like_face(where) and where != RIM and has_face(floor, where)
    return word == "pair" and looks_like_tie(where) and has_tie(floor, where)


def are_deeds(floor, value):
    """Whether value, whatever it is, is a tuple of what has the form of a DEED on floor."""
    return isinstance(value, tuple) and all([looks_like_deed(floor, item) for item in value])


def read_deed(floor, value):
    """What was handed in, of the form of a DEED on floor; Unfit() if it is not."""
    held = tupled(value, 3)
    if not looks_like_deed(floor, held):
        raise Unfit()
    return held


def read_plan(floor, value):
    """The tuple that was handed in, of what has the form of a DEED on floor; Unfit() if it is none."""
    held = tupled(value, 4)
    if not are_deeds(floor, held):
        raise Unfit()
    return held


def laid_by(floor, laid, deed):
    """A dict from each BLOCK of which deed lays the PIECE anew to the new one; {} if it is no DEED there.

    laid leads from each BLOCK to its PIECE.
    """
    word, where = deed
    four = touching_blocks(floor, where) if word == "square" else site_blocks(where)
    # A TIE is FLAT just if all four BLOCKS of its SITE are of one SIGN.
    if len({sign_told(laid[block]) for block in four}) > 1:
        return {}
    anew = turned_over(laid, four)
    # Four of one SIGN, each of which goes to another one of the four, go round.
    return {} if word == "square" and len(anew) < 4 else anew


def need_laid_by(floor, laid, deed):
    """What laid_by tells; CanNot() if it is no DEED there."""
    anew = laid_by(floor, laid, deed)
    if not anew:
        raise CanNot()
    return anew


def carry_out(floor, laid, deed):
    """Lay anew what deed does, in laid; whether it is a DEED there."""
    anew = laid_by(floor, laid, deed)
    laid.update(anew)
    return len(anew) > 0


def broken_place(floor, laid, plan):
    """Carry out the DEEDS of plan in laid; the first place at which there is no such DEED, None if there is none."""
    for place, deed in enumerate(plan):
        if not carry_out(floor, laid, deed):
            return place
    return None


def forms_of_deeds(floor):
    """The list, ascending, of all that has the form of a DEED on floor."""
    squares = [("square", face) for face in faces(floor) if face != RIM]
    return [("pair", tie) for tie in ties(floor)] + squares


def is_deed(floor, laying, thing):
    """Whether thing is a DEED of laying."""
    floor = read_floor(floor)
    laid = blocks_laid(read_laying(floor, laying))
    return looks_like_deed(floor, thing) and len(laid_by(floor, laid, thing)) > 0


def deeds(floor, laying):
    """The set of all DEEDS of laying."""
    floor = read_floor(floor)
    laid = blocks_laid(read_laying(floor, laying))
    return tuple([deed for deed in forms_of_deeds(floor) if laid_by(floor, laid, deed)])


def done(floor, laying, deed):
    """The LAYING behind this DEED; CanNot() if it is none of laying."""
    floor = read_floor(floor)
    laid = blocks_laid(read_laying(floor, laying))
    laid.update(need_laid_by(floor, laid, read_deed(floor, deed)))
    return tuple(sorted(laid.values()))


def laid_anew(floor, laying, deed):
    """The sets of the PIECES that this DEED takes up and of those it lays; CanNot() if it is none of laying."""
    floor = read_floor(floor)
    laid = blocks_laid(read_laying(floor, laying))
    anew = need_laid_by(floor, laid, read_deed(floor, deed))
    return (tuple(sorted([laid[block] for block in anew])), tuple(sorted(anew.values())))


def behind(floor, laying, plan):
    """The LAYING behind the DEEDS of plan; Broken(place) at the first place at which there is no such DEED."""
    floor = read_floor(floor)
    laid = blocks_laid(read_laying(floor, laying))
    place = broken_place(floor, laid, read_plan(floor, plan))
    if place is not None:
        raise Broken(place)
    return tuple(sorted(laid.values()))


def layings_along(floor, laying, plan):
    """The list of all LAYINGS on the way of plan, laying first; Broken(place) as behind."""
    floor = read_floor(floor)
    laying = read_laying(floor, laying)
    laid = blocks_laid(laying)
    way = [laying]
    for place, deed in enumerate(read_plan(floor, plan)):
        if not carry_out(floor, laid, deed):
            raise Broken(place)
        way.append(tuple(sorted(laid.values())))
    return way


def is_done_by(floor, laying, thing):
    """Whether thing is a PLAN from laying on."""
    floor = read_floor(floor)
    laid = blocks_laid(read_laying(floor, laying))
    return are_deeds(floor, thing) and broken_place(floor, laid, thing) is None


def undone(floor, plan):
    """The PLAN that leads back from behind this one."""
    return read_plan(read_floor(floor), plan)[::-1]


def deed_between(floor, laying, other):
    """The one DEED that leads from laying to other; CanNot() if there is none."""
    floor = read_floor(floor)
    laid = blocks_laid(read_laying(floor, laying))
    goal = blocks_laid(read_laying(floor, other))
    unlike = {block: goal[block] for block in goal if goal[block] != laid[block]}
    for deed in forms_of_deeds(floor):
        if unlike and laid_by(floor, laid, deed) == unlike:
            return deed
    raise CanNot()
