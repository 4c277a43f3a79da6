"""ORDERs of places, and what is turned by them: place k is turned into the k-th of the ORDER."""

from rivalsets.kinds import is_number_below, is_tuple_of


def is_order(n, thing):
    """Whether any thing is an ORDER of n places."""
    if not is_tuple_of(thing, n) or not all(is_number_below(place, n) for place in thing):
        return False
    return len(set(thing)) == n


def order_back(order):
    """The ORDER that turns all back again."""
    return tuple([order.index(place) for place in range(len(order))])


def turned_set(some, order):
    """The SET of the turned places."""
    return tuple(sorted([order[place] for place in some]))


def turned_family(family, order):
    """The FAMILY of the turned members."""
    n, members = family
    return n, tuple(sorted([turned_set(member, order) for member in members]))


def turned_weights(weights, order):
    """WEIGHTS by which a turned place has what the place had."""
    return tuple([weights[place] for place in order_back(order)])


def turned_pack(pack, order):
    """The PACK of the turned members, each with its count."""
    return tuple(sorted([(turned_set(member, order), count) for member, count in pack]))
