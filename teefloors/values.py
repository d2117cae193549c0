"""Numbers, tuples of numbers, and lists that stand for tuples."""

from teefloors.errors import Unfit


def is_number(value):
    """Whether value is a number: True and False are none."""
    return isinstance(value, int) and not isinstance(value, bool)


def is_count(value):
    """Whether value is a number from 0."""
    return is_number(value) and value >= 0


def are_numbers(value, many):
    """Whether value is a tuple of just so many numbers."""
    if not isinstance(value, tuple) or len(value) != many:
        return False
    return all([is_number(item) for item in value])


def is_ascending(items):
    """Whether each of the items is greater than the one ahead of it."""
    return all([one < other for one, other in zip(items, items[1:])])


def tupled(value, depth):
    """The value with tuples in the place of lists, so many levels down.

    The depth is that of the value that is wanted: what lies deeper is a fault
    already, and may be too deep to be gone through.
    """
    if depth == 0 or not isinstance(value, (list, tuple)):
        return value
    return tuple([tupled(item, depth - 1) for item in value])


def read_pair(value):
    """The pair of numbers that was handed in; Unfit() if it is none."""
    held = tupled(value, 1)
    if not are_numbers(held, 2):
        raise Unfit()
    return held


def read_below(value, bound):
    """The number from 0 below bound that was handed in; Unfit() if it is none."""
    if not is_number(value) or not 0 <= value < bound:
        raise Unfit()
    return value


def read_count(value):
    """The number from 0 that was handed in; Unfit() if it is none."""
    if not is_count(value):
        raise Unfit()
    return value
