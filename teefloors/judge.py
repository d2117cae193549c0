"""One judge of five kinds of DEMANDS, with PAPERS against them and REASONS for them."""

from teefloors.demands import demand_of
from teefloors.errors import Unfit
from teefloors.values import tupled


def read_demand(value):
    """The DEMAND that was handed in; Unfit() if it is none, TooMany() if it asks for too much."""
    demand = demand_of(tupled(value, 4))
    if demand is None:
        raise Unfit()
    demand.need_few()
    return demand


def is_demand(thing):
    """Whether thing is a DEMAND."""
    return demand_of(thing) is not None


def is_so(demand):
    """Whether this DEMAND stands."""
    return read_demand(demand).stands()


def paper_against(demand):
    """A PAPER against this DEMAND; None if it stands."""
    own = read_demand(demand)
    return None if own.stands() else own.paper()


def is_paper_against(demand, thing):
    """Whether thing is a PAPER against this DEMAND."""
    own = read_demand(demand)
    return not own.stands() and own.is_paper(thing)


def reason_for(demand):
    """A REASON for this DEMAND; None if it does not stand."""
    own = read_demand(demand)
    return own.reason() if own.stands() else None


def is_reason_for(demand, thing):
    """Whether thing is a REASON for this DEMAND."""
    own = read_demand(demand)
    return own.stands() and own.is_reason(thing)


def first_fallen(demands):
    """The number of the first of these DEMANDS that does not stand; None if all stand."""
    held = tupled(demands, 5)
    if not isinstance(held, tuple):
        raise Unfit()
    found = [demand_of(item) for item in held]
    if None in found:
        raise Unfit()
    for at, demand in enumerate(found):
        demand.need_few()
        if not demand.stands():
            return at
    return None
