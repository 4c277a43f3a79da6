"""WEIGHTS of places, what SETs cost by them, and which meeters and members cost least."""

from rivalsets.kinds import is_number_below, is_tuple_of
from rivalsets.others import other_family

MOST_WEIGHT = 99


def is_weights(n, thing):
    """Whether any thing is WEIGHTS of n places."""
    return is_tuple_of(thing, n) and all(is_number_below(weight, MOST_WEIGHT + 1) for weight in thing)


def cost_of(weights, some):
    """The COST of a SET."""
    return sum([weights[place] for place in some])


def cheapest(family, weights):
    """A meeter of the least COST; None of WHOLE."""
    # Each meeter has a least meeter within it, and no weight is below nought.
    return shortest_by(other_family(family), weights)


def shortest_by(family, lengths):
    """A member of the least COST; None of VOID."""
    return min(family[1], key=lambda member: cost_of(lengths, member), default=None)


def cheaper_ones(family, weights, bound):
    """All members of the OTHER that cost less than the BOUND, by their COST and then as Python sorts."""
    cheaper = [member for member in other_family(family)[1] if cost_of(weights, member) < bound]
    return sorted(cheaper, key=lambda member: (cost_of(weights, member), member))
