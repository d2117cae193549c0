"""Sums over LOTS, over RISES and TIE by TIE: each of them is the number of LAYINGS."""

from math import gcd

from teefloors.errors import TooMany, Unfit
from teefloors.floors import all_dots, many_ties, read_floor, ties
from teefloors.lattice import list_of_rises
from teefloors.rises import flat_of
from teefloors.rounds import more_rounds, rounds_of_lot
from teefloors.ties import read_lot
from teefloors.values import is_number

MOST_TIES = 10


def need_few_ties(floor):
    """TooMany() if floor has more than 10 TIES."""
    if many_ties(floor) > MOST_TIES:
        raise TooMany()


def lots_counted(floor):
    """The list of pairs of a LOT of floor and how many ROUNDS it has; TooMany() above 10 TIES."""
    need_few_ties(floor)
    dots = all_dots(floor)
    found = [((), {dot: dot for dot in dots}, len(dots))]
    for tie in ties(floor):
        grown = []
        for lot, named, many in found:
            anew = {dot: named[dot] for dot in dots}
            grown.append(((*lot, tie), anew, many + more_rounds(anew, tie)))
        found = found + grown
    return [(lot, many) for lot, _, many in found]


def rises_counted(floor):
    """The list of pairs of a RISE of floor, ascending, and how many FLAT TIES it has; TooMany() above 2,000."""
    return [(rise, len(flat_of(floor, rise))) for rise in list_of_rises(floor)]


def table_of(numbers, most):
    """The tuple that tells how often each number from 0 to most stands among these."""
    times = [0] * (most + 1)
    for number in numbers:
        times[number] += 1
    return tuple(times)


def all_lots_added(floor):
    """2 to the number of ROUNDS, added up over all LOTS of floor."""
    return sum([1 << many for _, many in lots_counted(floor)])


def laid_with_links(many, links):
    """In how many ways so many DOTS with these links are laid: pairs of the names of two, or twice of one."""
    if links == []:
        return 1 << many
    (one, other), rest = links[0], links[1:]
    struck = laid_with_links(many, rest)
    if one == other:
        return 3 * struck
    joined = [(one if first == other else first, one if second == other else second) for first, second in rest]
    return struck + laid_with_links(many - 1, joined)


def sum_by_lots(floor):
    """2 to the number of ROUNDS, added up over all LOTS; TooMany() above 10 TIES."""
    return all_lots_added(read_floor(floor))


def lot_table(floor):
    """How many LOTS have 0, 1, .. ROUNDS; TooMany() above 10 TIES."""
    floor = read_floor(floor)
    return table_of([many for _, many in lots_counted(floor)], floor[0] * floor[1])


def lots_with(floor, number):
    """The list, ascending, of the LOTS with so many ROUNDS; TooMany() above 10 TIES."""
    floor = read_floor(floor)
    if not is_number(number):
        raise Unfit()
    return sorted([lot for lot, many in lots_counted(floor) if many == number])


def sum_by_rises(floor):
    """2 to the number of FLAT TIES, added up over all RISES; TooMany() above 2,000 RISES."""
    return sum([1 << many for _, many in rises_counted(read_floor(floor))])


def rise_table(floor):
    """How many RISES have 0, 1, .. FLAT TIES; TooMany() above 2,000 RISES."""
    floor = read_floor(floor)
    return table_of([many for _, many in rises_counted(floor)], many_ties(floor))


def flattest(floor):
    """The list, ascending, of the RISES with the most FLAT TIES; TooMany() above 2,000 RISES."""
    found = rises_counted(read_floor(floor))
    most = max([many for _, many in found])
    return [rise for rise, many in found if many == most]


def sum_by_ties(floor):
    """The number of LAYINGS, TIE by TIE: struck out, and with its ends made one; TooMany() above 10 TIES."""
    floor = read_floor(floor)
    need_few_ties(floor)
    return laid_with_links(floor[0] * floor[1], list(ties(floor)))


def even_chance(floor, lot):
    """With what share a LAYING drawn evenly has this LOT: a pair in least terms; TooMany() above 10 TIES."""
    floor = read_floor(floor)
    lot = read_lot(floor, lot)
    many, whole = 1 << len(rounds_of_lot(floor, lot)), all_lots_added(floor)
    shared = gcd(many, whole)
    return (many // shared, whole // shared)
