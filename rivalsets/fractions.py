"""FRACTIONs: tuples (top, bottom) without a common divisor but 1."""

from rivalsets.kinds import is_number_from, is_tuple_of, is_whole


def is_fraction(thing):
    """Whether any thing is a FRACTION."""
    if not is_tuple_of(thing, 2) or not is_whole(thing[0]) or not is_number_from(thing[1], 1):
        return False
    return greatest_divisor(thing[0], thing[1]) == 1


def fraction_of(top, bottom):
    """The FRACTION of top by bottom."""
    divisor = greatest_divisor(top, bottom)
    return top // divisor, bottom // divisor


def is_below(one, other):
    """Whether the one FRACTION is below the other."""
    return one[0] * other[1] < other[0] * one[1]


def greatest_divisor(top, bottom):
    """The greatest number that divides both, bottom from 1 on."""
    divisor, rest = bottom, top % bottom
    while rest:
        divisor, rest = rest, divisor % rest
    return divisor
