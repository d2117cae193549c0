"""The tests' own look at DEMANDS, PAPERS and REASONS, and things bent in each place, to set beside the package's."""

import random

from tests.own import (
    SMALL, as_rise, drawn_laying, drawn_lot, own_blocks, own_faces, own_layings, own_lots, own_rounds,
    own_steps, own_ties,
)
from tests.own_deeds import own_forms, own_way
from tests.own_told import each_drawn_told, heights_of_laying, is_own_laying, own_having
from tests.test_told import own_both_ways, own_bounds, own_pieces, own_sum


def is_plain(thing):
    """Whether thing is built of tuples, numbers and strings alone."""
    if type(thing) is tuple:
        return all(map(is_plain, thing))
    return type(thing) in (int, str)


def bent(thing):
    """Things like this one, each but for one place: left out, twice, a list, another value."""
    if isinstance(thing, tuple):
        yield list(thing)
        yield (*thing, *thing[-1:])
        yield thing[::-1]
        for at, item in enumerate(thing):
            yield (*thing[:at], *thing[at + 1:])
            yield (*thing[:at], item, *thing[at:])
            for other in bent(item):
                yield (*thing[:at], other, *thing[at + 1:])
    elif isinstance(thing, str):
        yield from (thing + "s", thing.upper(), "", None, 0, (thing,))
    else:
        yield from (thing + 1, thing - 1, -thing, bool(thing), None, str(thing), float(thing), (thing,), 10 ** 40)


def own_is_floor(thing):
    return isinstance(thing, tuple) and len(thing) == 2 and all(type(own) is int and own > 0 for own in thing)


def is_set(thing):
    return isinstance(thing, tuple) and list(thing) == sorted(set(thing))


def is_told_set(floor, thing):
    return isinstance(thing, tuple) and all(own in own_pieces(floor) for own in thing) and is_set(thing)


def own_is_demand(thing):
    """Whether thing is a DEMAND; of FLOORS small enough to be listed."""
    if not isinstance(thing, tuple) or not is_plain(thing) or len(thing) < 3 or not own_is_floor(thing[1]):
        return False
    word, floor, *more = thing
    if floor not in SMALL:
        return None
    sizes = {"finish": 1, "fewest": 3, "sure": 2, "many": 2, "rounds": 2}
    if len(more) != sizes.get(word):
        return False
    if word in ("fewest", "many", "rounds") and (type(more[-1]) is not int or more[-1] < 0):
        return False
    if word == "fewest":
        return all(own in own_layings(floor) for own in more[:2])
    if word == "rounds":
        lot = more[0]
        return isinstance(lot, tuple) and all(tie in own_ties(floor) for tie in lot) and is_set(lot)
    if not is_told_set(floor, more[0]):
        return False
    return word != "sure" or (more[1] in own_pieces(floor) and own_having(floor, more[0]) != [])


def apart(floor, laying, other):
    one, two = heights_of_laying(floor, laying), heights_of_laying(floor, other)
    return sum(abs(one[face] - two[face]) for face in one) // 2


def own_is_so(demand):
    """Whether a DEMAND of a small FLOOR stands."""
    word, floor, *more = demand
    if word == "finish":
        return own_having(floor, more[0]) != []
    if word == "fewest":
        return apart(floor, more[0], more[1]) <= more[2]
    if word == "sure":
        return all(more[1] in laying for laying in own_having(floor, more[0]))
    if word == "many":
        return len(own_having(floor, more[0])) <= more[1]
    return len(own_rounds(floor, more[0])) <= more[1]


def own_is_reason_against(floor, told, thing):
    """Whether it is ("tie", TIE told both ways) or ("ring", RING that falls)."""
    if not isinstance(thing, tuple) or len(thing) != 2:
        return False
    word, what = thing
    if word == "tie":
        return what in own_both_ways(floor, told)
    if word != "ring" or not isinstance(what, tuple) or len(what) < 3 or what[0] != what[-1]:
        return False
    if not all(face in own_faces(floor) for face in what):
        return False
    if not all(other in own_steps(floor)[face] for face, other in zip(what, what[1:])):
        return False
    return own_sum(own_bounds(floor, told), what) < 0


def others_of_block(floor, piece):
    return [own for own in own_pieces(floor) if (own[0] // 2, own[1] // 2) == (piece[0] // 2, piece[1] // 2)
            and own != piece]


def with_one_more(told, piece):
    return tuple(sorted({*told, piece}))


def is_laying_with(floor, told, thing):
    if not isinstance(thing, tuple) or not all(own in own_pieces(floor) for own in thing) or not is_set(thing):
        return False
    return is_own_laying(floor, thing) and set(told) <= set(thing)


def are_layings_with(floor, told, thing):
    return isinstance(thing, tuple) and all(is_laying_with(floor, told, own) for own in thing) and is_set(thing)


def own_is_paper(demand, thing):
    """Whether thing is a PAPER against a DEMAND that does not stand, by the table."""
    word, floor, *more = demand
    if not is_plain(thing) or own_is_so(demand):
        return False
    if word == "finish":
        return own_is_reason_against(floor, more[0], thing)
    if word == "fewest":
        one, two = heights_of_laying(floor, more[0]), heights_of_laying(floor, more[1])
        return thing == as_rise(floor, {face: two[face] - one[face] for face in one})
    if word == "sure":
        return is_laying_with(floor, more[0], thing) and more[1] not in thing
    if word == "many":
        return are_layings_with(floor, more[0], thing) and len(thing) == more[1] + 1
    if not isinstance(thing, tuple) or not all(own in own_blocks(floor) for own in thing) or not is_set(thing):
        return False
    places = {block: at for at, own in enumerate(own_rounds(floor, more[0])) for block in own}
    return len({places[block] for block in thing}) == len(thing) == more[1] + 1


def own_is_reason(demand, thing):
    """Whether thing is a REASON for a DEMAND that stands, by the table."""
    word, floor, *more = demand
    if not is_plain(thing) or not own_is_so(demand):
        return False
    if word == "finish":
        return is_laying_with(floor, more[0], thing)
    if word == "fewest":
        laying, other, number = more
        if not isinstance(thing, tuple) or not all(deed in own_forms(floor) for deed in thing):
            return False
        way = own_way(floor, laying, thing)
        squares = [deed for deed in thing if deed[0] == "square"]
        return len(way) == len(thing) + 1 and way[-1] == other and len(squares) <= number
    if word == "sure":
        others = others_of_block(floor, more[1])
        return isinstance(thing, tuple) and len(thing) == len(others) and all(
            own_is_reason_against(floor, with_one_more(more[0], own), item) for own, item in zip(others, thing))
    if word == "many":
        return thing == tuple(own_having(floor, more[0]))
    return thing == tuple(own[0] for own in own_rounds(floor, more[0]))


def drawn_demands(many, few=150):
    """DEMANDS of small FLOORS of all five kinds, such as just stand, just do not, and others."""
    for floor, told in each_drawn_told(many):
        draw = random.Random(f"{floor} {told}")
        having = own_having(floor, told)
        yield ("finish", floor, told)
        for number in {0, len(having) - 1, len(having), len(having) + 5, draw.randrange(9)}:
            if number >= 0 and len(having) < few:
                yield ("many", floor, told, number)
        if having:
            yield ("sure", floor, told, draw.choice(draw.choice(having)))
            yield ("sure", floor, told, draw.choice(list(own_pieces(floor))))
        laying, other = draw.choice(own_layings(floor)), draw.choice(own_layings(floor))
        far = apart(floor, laying, other)
        for number in {0, max(far - 1, 0), far, far + 1, 10 ** 6}:
            yield ("fewest", floor, laying, other, number)
        lot = draw.choice(own_lots(floor))
        rounds = len(own_rounds(floor, lot))
        for number in {0, rounds - 1, rounds, rounds + 1, 10 ** 6}:
            yield ("rounds", floor, lot, number)


def great_demands(floor):
    """DEMANDS of a greater FLOOR, but for "many", with whether each stands."""
    draw = random.Random(str(floor))
    laying, other = drawn_laying(draw, floor), drawn_laying(draw, floor)
    told = tuple(piece for piece in laying if draw.random() < 0.2)
    far, lot = apart(floor, laying, other), drawn_lot(draw, floor)
    rounds = len(own_rounds(floor, lot))
    mixed = tuple(own_pieces(floor))
    yield ("finish", floor, told), True
    yield ("finish", floor, mixed), False
    yield ("fewest", floor, laying, other, far), True
    yield ("fewest", floor, laying, other, far - 1), False
    yield ("sure", floor, laying, laying[0]), True
    yield ("sure", floor, told, draw.choice(others_of_block(floor, laying[3]))), False
    yield ("rounds", floor, lot, rounds), True
    yield ("rounds", floor, lot, rounds - 1), False
