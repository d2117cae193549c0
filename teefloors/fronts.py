"""Fronts: LAYINGS counted rank by rank.

A rank are the BLOCKS with one number along the longer side of a FLOOR; their place in it is their number along
the shorter one. Going along a rank one comes, BLOCK by BLOCK, from the RIM to a DOT, to an outer FACE, to a DOT,
and so on to the RIM again, each time 1 up or 1 down. A front is a number with a bit for each place of a rank:
1 if one goes up there. Between two ranks lie the SITES of TIES: at each of them the two bits of its places are
the same behind it, or, if they are unlike, maybe the other way round.
"""

from teefloors.errors import TooMany
from teefloors.finished import has_some
from teefloors.floors import dot_face, outer_face, tie_over
from teefloors.lattice import rise_by
from teefloors.pieces import block_in, sign_told, told_of_tie
from teefloors.rises import height_at

MOST_NARROW = 7


def need_narrow(floor):
    """TooMany() if both sides of floor are above 7."""
    if min(floor) > MOST_NARROW:
        raise TooMany()


def shore_fronts(wide):
    """The list of the fronts, so many places wide, with height 0 at all outer FACES."""
    found = [0]
    for place in range(0, wide, 2):
        found = [front | (bits << place) for front in found for bits in (1, 2)]
    return found


def site_places(rank, wide):
    """The places, each of the first of two, of the SITES between this rank and the next."""
    # Within a rank of DOTS lie the TIES between these; the first and the last BLOCKS lie at the RIM.
    return list(range(1, wide - 1, 2)) if rank % 2 == 0 else list(range(0, wide, 2))


def are_alike_at(front, place):
    """Whether this front goes on at this place and the next one the same way, up or down."""
    return (front >> place) & 3 in (0, 3)


def turned_front(front, place):
    """The front with the bits at this place and the next one the other way."""
    return front ^ (3 << place)


def heights_along(front, wide):
    """The list of the heights of the FACES between the BLOCKS of a rank with this front."""
    heights = []
    now = 0
    for place in range(wide - 1):
        now += 2 * ((front >> place) & 1) - 1
        heights.append(now)
    return heights


def past_site(many, place, keep, turn, alike):
    """How many there are of each front behind a SITE, of so many of each ahead of it.

    keep and turn tell how often each front with unlike bits there stays and is turned, alike how often
    one with like bits stays.
    """
    behind = {}
    for front, number in many.items():
        if are_alike_at(front, place):
            if alike:
                behind[front] = number
        else:
            other = turned_front(front, place)
            if keep:
                behind[front] = behind.get(front, 0) + keep * number
            if turn:
                behind[other] = behind.get(other, 0) + number
    return behind


class Fronts:
    """The fronts of a FLOOR, with how many LAYINGS, or RISES, lead to each and on from it.

    What is counted has all PIECES that have been told. Counts are kept, rank by rank, until what is told
    changes there.
    """

    def __init__(self, floor, books):
        """Each FLAT TIE of which nothing is told counts twice if books is True."""
        self._floor = floor
        self._books = books
        self._last = 2 * max(floor) - 1
        self._wide = 2 * min(floor)
        self._shore = {front: 1 for front in shore_fronts(self._wide)}
        self._sites = [self._sites_behind(rank) for rank in range(self._last)]
        self._signs = {}
        self._words = {}
        self._least = {}
        # How many PIECES have been told in each rank.
        self._told = [0] * (self._last + 1)
        # What ahead and onward have counted: from the first rank on, and from the last one back; and likewise
        # what onward counts as long as nothing is told from there on.
        self._ahead = []
        self._onward = []
        self._untold = []

    def block_at(self, rank, place):
        """The BLOCK at this place of this rank."""
        return (rank, place) if self._floor[0] >= self._floor[1] else (place, rank)

    def rank_of(self, block):
        """The rank of this BLOCK."""
        return block[0] if self._floor[0] >= self._floor[1] else block[1]

    def faces_along(self, rank):
        """The list of the FACES between the BLOCKS of this rank."""
        found = []
        for place in range(self._wide - 1):
            block = self.block_at(rank, place)
            found.append(dot_face(block) if place % 2 == 0 else outer_face(self._floor, block))
        return found

    def _sites_behind(self, rank):
        """The list of pairs of the place of each SITE behind this rank and its TIE."""
        found = []
        for place in site_places(rank, self._wide):
            found.append((place, tie_over(self.block_at(rank, place), self.block_at(rank + 1, place + 1))))
        return found

    def tell(self, piece):
        """From now on only what has this PIECE counts, too."""
        block = block_in(piece)
        self._signs.setdefault(block, []).append(sign_told(piece))
        pair = told_of_tie(self._floor, piece)
        if pair is not None:
            self._words.setdefault(pair[0], []).append(pair[1])
        self._told[self.rank_of(block)] += 1
        self._forget(self.rank_of(block))

    def take_back(self, piece):
        """Take back what the last PIECE told has told, which is this one."""
        block = block_in(piece)
        self._signs[block].pop()
        pair = told_of_tie(self._floor, piece)
        if pair is not None:
            self._words[pair[0]].pop()
        self._told[self.rank_of(block)] -= 1
        self._forget(self.rank_of(block))

    def keep_above(self, rise):
        """From now on only what is nowhere below this RISE counts; nothing has been counted yet."""
        for rank in range(self._last + 1):
            self._least[rank] = [height_at(rise, face) for face in self.faces_along(rank)]

    def shut(self):
        """From now on nothing counts, whatever else is told; nothing has been counted yet."""
        self._shore = {}

    def _forget(self, rank):
        """Keep no count for which it matters what is told in this rank, or at the SITES about it."""
        del self._ahead[rank:]
        del self._onward[self._last - rank:]

    def _fitting(self, rank, many):
        """Those of many, a dict from fronts, whose fronts fit what is told in this rank."""
        up, down = 0, 0
        for place in range(self._wide):
            for sign in self._signs.get(self.block_at(rank, place), []):
                # From an outer FACE to its DOT one goes up by SIGN 1, from a DOT to the outer FACE by -1.
                if sign == (1 if place % 2 == 0 else -1):
                    up |= 1 << place
                else:
                    down |= 1 << place
        fit = {front: many[front] for front in many if front & up == up and front & down == 0}
        if rank in self._least:
            least = self._least[rank]
            fit = {front: fit[front] for front in fit if is_above(heights_along(front, self._wide), least)}
        return fit

    def _past(self, rank, many):
        """How many there are of each front on the other side of the SITES behind this rank, of many on one."""
        # Where both bits are alike the first of these words stands, where they are turned the second one;
        # where they are unlike and stay the TIE is FLAT.
        first, second = ("cut", "tied") if rank % 2 == 0 else ("tied", "cut")
        for place, tie in self._sites[rank]:
            told = self._words.get(tie, [])
            alike, turn = second not in told, first not in told
            keep = int(alike) + int(turn)
            many = past_site(many, place, keep if self._books else min(keep, 1), turn, alike)
        return many

    def ahead(self, rank):
        """A dict from each front of this rank to how many ways lead to it."""
        if self._ahead == []:
            self._ahead.append(self._fitting(0, self._shore))
        while len(self._ahead) <= rank:
            now = len(self._ahead)
            self._ahead.append(self._fitting(now, self._past(now - 1, self._ahead[now - 1])))
        return self._ahead[rank]

    def onward(self, rank):
        """A dict from each front of this rank, whether or not it fits there, to how many ways lead on from it."""
        kept = self._onward if any(self._told[rank:]) else self._untold
        if kept == []:
            kept.append(self._shore)
        while len(kept) <= self._last - rank:
            now = self._last - len(kept)
            kept.append(self._past(now, self._fitting(now + 1, kept[-1])))
        return kept[self._last - rank]

    def many_by_front(self, rank):
        """A dict from each front of this rank to how many there are in all with it."""
        onward = self.onward(rank)
        return {front: number * onward[front] for front, number in self.ahead(rank).items() if front in onward}

    def many(self, block=(0, 0)):
        """How many there are in all: counted behind the rank of this BLOCK, as all counts but those about it stay."""
        rank = min(self.rank_of(block) + 1, self._last)
        return sum(self.many_by_front(rank).values())

    def all_ways(self):
        """The list of all rows of fronts, one for each rank, that stand one behind the other in what is counted."""
        ways = [[front] for front in self.many_by_front(0)]
        for rank in range(self._last):
            fit = self.many_by_front(rank + 1)
            leads = {}
            for way in ways:
                if way[-1] not in leads:
                    leads[way[-1]] = [front for front in self._past(rank, {way[-1]: 1}) if front in fit]
            ways = [[*way, front] for way in ways for front in leads[way[-1]]]
        return ways

    def rise_along(self, way):
        """The RISE with this row of fronts."""
        heights = {}
        for rank, front in enumerate(way):
            for face, now in zip(self.faces_along(rank), heights_along(front, self._wide)):
                heights[face] = now
        return rise_by(self._floor, heights)

    def many_with(self, piece):
        """How many there are with this PIECE, too."""
        self.tell(piece)
        found = self.many(block_in(piece))
        self.take_back(piece)
        return found


def is_above(heights, least):
    """Whether each of these heights is at the least what it must be."""
    return all([height >= most for height, most in zip(heights, least)])


def fronts_told(floor, told, books):
    """The fronts of floor with all PIECES of told; shut if no LAYING has these."""
    fronts = Fronts(floor, books)
    for piece in told:
        fronts.tell(piece)
    # Else all behind the ranks in which told clash would be counted, only to find that nothing leads there.
    if not has_some(floor, told):
        fronts.shut()
    return fronts
