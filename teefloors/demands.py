"""The five kinds of DEMANDS: whether they stand, with PAPERS against them and REASONS for them.

A PAPER or a REASON is made, and what is handed in as one is looked at, only when the DEMAND falls or stands.
"""

from teefloors.counts import many_having
from teefloors.errors import TooMany
from teefloors.fewest import plan, squares_among, squares_between
from teefloors.finished import is_why, laying_finished, put_in, why_none, words_by
from teefloors.floors import has_block, is_floor
from teefloors.fronts import fronts_told, need_narrow
from teefloors.lattice import heights_of, rise_by
from teefloors.layings import blocks_laid, covers
from teefloors.pieces import block_in, is_piece, lies_on, lying_of
from teefloors.rises import are_heights, flat_of, layings_by_rise, rise_laid
from teefloors.rounds import places_of_blocks, rounds_of_lot
from teefloors.squares import are_deeds, broken_place
from teefloors.ties import is_lot_of
from teefloors.told import is_told_of
from teefloors.values import are_numbers, is_ascending, is_count

MOST_LAYINGS = 2000


def has_told(floor, told, value):
    """Whether value, whatever it is, is a LAYING of floor that has all of told."""
    if not covers(floor, value):
        return False
    laid = blocks_laid(value)
    return all([laid[block_in(piece)] == piece for piece in told])


def are_having(floor, told, value):
    """Whether value, whatever it is, is a set of LAYINGS of floor that have all of told."""
    if not isinstance(value, tuple) or not all([has_told(floor, told, item) for item in value]):
        return False
    return is_ascending(value)


def layings_having(floor, told):
    """The set of all LAYINGS of floor that have all of told."""
    words = words_by(floor, told)
    fronts = fronts_told(floor, told, False)
    found = []
    for way in fronts.all_ways():
        rise = fronts.rise_along(way)
        flat = flat_of(floor, rise)
        book = [tie for tie in flat if words.get(tie) == "tied"]
        found.extend(layings_by_rise(floor, rise, book, [tie for tie in flat if tie not in words]))
    return tuple(sorted(found))


def are_blocks(floor, value):
    """Whether value, whatever it is, is a set of BLOCKS of floor."""
    if not isinstance(value, tuple):
        return False
    return all([are_numbers(item, 2) and has_block(floor, item) for item in value]) and is_ascending(value)


class Demand:
    """What all kinds of DEMANDS share."""

    def need_few(self):
        """TooMany() if what is asked for is too much to be counted: never, but for one kind."""


class Finish(Demand):
    """Some LAYING has all of told."""

    def __init__(self, floor, told):
        self._floor = floor
        self._told = told

    def stands(self):
        """Whether it is so."""
        return why_none(self._floor, self._told) is None

    def paper(self):
        """A TIE told both ways or a RING that falls, with the word for it."""
        return why_none(self._floor, self._told)

    def is_paper(self, value):
        """Whether value is such a pair."""
        return is_why(self._floor, self._told, value)

    def reason(self):
        """A LAYING that has all of told."""
        return laying_finished(self._floor, self._told)

    def is_reason(self, value):
        """Whether value is such a LAYING."""
        return has_told(self._floor, self._told, value)


class Fewest(Demand):
    """So many SQUARES are enough to come from one LAYING to another."""

    def __init__(self, floor, laying, other, number):
        self._floor = floor
        self._laying = laying
        self._other = other
        self._number = number

    def stands(self):
        """Whether it is so."""
        return squares_between(self._floor, self._laying, self._other) <= self._number

    def paper(self):
        """What the RISE of the other one is more, FACE by FACE, told as a RISE is."""
        heights = heights_of(self._floor, rise_laid(self._floor, self._laying))
        goals = heights_of(self._floor, rise_laid(self._floor, self._other))
        return rise_by(self._floor, {face: goals[face] - heights[face] for face in heights})

    def is_paper(self, value):
        """Whether value is that pair of tables."""
        if not isinstance(value, tuple) or len(value) != 2:
            return False
        many, high = self._floor
        if not are_heights(value[0], many, high, 0) or not are_heights(value[1], many - 1, high - 1, 0):
            return False
        return value == self.paper()

    def reason(self):
        """A PLAN with the fewest SQUARES."""
        return plan(self._floor, self._laying, self._other)

    def is_reason(self, value):
        """Whether value is a PLAN with at most so many SQUARES."""
        if not are_deeds(self._floor, value) or squares_among(value) > self._number:
            return False
        laid = blocks_laid(self._laying)
        return broken_place(self._floor, laid, value) is None and laid == blocks_laid(self._other)


class Sure(Demand):
    """All LAYINGS that have told, and there are some, have one PIECE more."""

    def __init__(self, floor, told, piece):
        self._floor = floor
        self._piece = piece
        self._told = told
        others = [own for own in lying_of(floor, block_in(piece)) if own != piece]
        # For each other PIECE of the BLOCK what would be told with it.
        self._instead = [put_in(told, own) for own in others]

    def stands(self):
        """Whether it is so."""
        return all([why_none(self._floor, more) is not None for more in self._instead])

    def paper(self):
        """A LAYING that has told and another PIECE of the BLOCK."""
        open_still = [more for more in self._instead if why_none(self._floor, more) is None]
        return laying_finished(self._floor, open_still[0])

    def is_paper(self, value):
        """Whether value is a LAYING that has told and not the PIECE."""
        return has_told(self._floor, self._told, value) and self._piece not in value

    def reason(self):
        """For each other PIECE of the BLOCK why it can't lie beside told."""
        return tuple([why_none(self._floor, more) for more in self._instead])

    def is_reason(self, value):
        """Whether value tells that for each of them, in order."""
        if not isinstance(value, tuple) or len(value) != len(self._instead):
            return False
        return all([is_why(self._floor, more, item) for more, item in zip(self._instead, value)])


class Many(Demand):
    """At most so many LAYINGS have all of told."""

    def __init__(self, floor, told, number):
        self._floor = floor
        self._told = told
        self._number = number

    def need_few(self):
        """TooMany() if both sides of the FLOOR are above 7, or more than 2,000 LAYINGS have told."""
        need_narrow(self._floor)
        if many_having(self._floor, self._told) > MOST_LAYINGS:
            raise TooMany()

    def stands(self):
        """Whether it is so."""
        return many_having(self._floor, self._told) <= self._number

    def paper(self):
        """The least ones of these LAYINGS, one more than so many."""
        return layings_having(self._floor, self._told)[:self._number + 1]

    def is_paper(self, value):
        """Whether value is a set of such LAYINGS, one more than so many."""
        return are_having(self._floor, self._told, value) and len(value) == self._number + 1

    def reason(self):
        """The set of all such LAYINGS."""
        return layings_having(self._floor, self._told)

    def is_reason(self, value):
        """Whether value is the set of all such LAYINGS."""
        return are_having(self._floor, self._told, value) and len(value) == many_having(self._floor, self._told)


class Rounds(Demand):
    """A LOT has at most so many ROUNDS."""

    def __init__(self, floor, lot, number):
        self._floor = floor
        self._number = number
        self._found = rounds_of_lot(floor, lot)

    def stands(self):
        """Whether it is so."""
        return len(self._found) <= self._number

    def paper(self):
        """The least BLOCKS of the first ROUNDS, one more than so many."""
        return self.reason()[:self._number + 1]

    def is_paper(self, value):
        """Whether value is a set of BLOCKS, one more than so many, no two of one ROUND."""
        if not are_blocks(self._floor, value) or len(value) != self._number + 1:
            return False
        places = places_of_blocks(self._found)
        return len({places[block] for block in value}) == len(value)

    def reason(self):
        """The set of the least BLOCKS of the ROUNDS."""
        return tuple([own[0] for own in self._found])

    def is_reason(self, value):
        """Whether value is that set."""
        return are_blocks(self._floor, value) and value == self.reason()


def finish_of(floor, told):
    """The DEMAND that these tell; None if they tell none. So for all below."""
    return Finish(floor, told) if is_told_of(floor, told) else None


def fewest_of(floor, laying, other, number):
    """The DEMAND of so many SQUARES from one LAYING to another."""
    fits = covers(floor, laying) and covers(floor, other) and is_count(number)
    return Fewest(floor, laying, other, number) if fits else None


def sure_of(floor, told, piece):
    """The DEMAND of a PIECE in all LAYINGS that have told."""
    fits = is_told_of(floor, told) and is_piece(piece) and lies_on(floor, piece)
    return Sure(floor, told, piece) if fits and why_none(floor, told) is None else None


def many_of_told(floor, told, number):
    """The DEMAND of at most so many LAYINGS that have told."""
    return Many(floor, told, number) if is_told_of(floor, told) and is_count(number) else None


def rounds_of(floor, lot, number):
    """The DEMAND of at most so many ROUNDS."""
    return Rounds(floor, lot, number) if is_lot_of(floor, lot) and is_count(number) else None


MAKERS = {"finish": finish_of, "fewest": fewest_of, "sure": sure_of, "many": many_of_told, "rounds": rounds_of}
# How many things stand in a DEMAND of each kind, its word among them.
SIZES = {"finish": 3, "fewest": 5, "sure": 4, "many": 4, "rounds": 4}


def demand_of(value):
    """The DEMAND that value, whatever it is, tells; None if it tells none."""
    if not isinstance(value, tuple) or len(value) == 0 or not isinstance(value[0], str):
        return None
    if len(value) != SIZES.get(value[0]) or not is_floor(value[1]):
        return None
    made = MAKERS[value[0]]
    rest = value[1:]
    return made(*rest)
