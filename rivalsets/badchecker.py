"""BAD papers, which show weights by which a FAMILY doesn't come out even: their checker, which seeks nothing."""

from rivalsets.bads import named_family, price_of
from rivalsets.errors import NoPaper
from rivalsets.kinds import is_number_below, is_tuple_of
from rivalsets.likes import first_unlike
from rivalsets.minors import called_by, small_one
from rivalsets.sets import is_set


def lets_bad(family, thing):
    """True where any thing is a BAD paper for a FAMILY; else NoPaper."""
    if not is_bad_shaped(family[0], thing):
        raise NoPaper("shape", 0)
    out, kept, order, word = thing
    place = first_misplaced(family[0], out + kept + order)
    if place is not None:
        raise NoPaper("place", place)
    named = named_family(word, len(order))
    if named is None:
        raise NoPaper("word", len(order))
    fault = first_unlike(named, called_small(family, out, kept, order))
    if fault is not None:
        raise NoPaper(fault[0], fault[1])
    return True


def is_bad_shaped(n, thing):
    """Whether any thing is a BAD paper by kind."""
    if not is_tuple_of(thing, 4):
        return False
    out, kept, order, word = thing
    if not is_set(n, out) or not is_set(n, kept) or not isinstance(word, str):
        return False
    return isinstance(order, tuple) and all(is_number_below(place, n) for place in order)


def first_misplaced(n, places):
    """The least of n places that doesn't stand just once among these; None where each does."""
    for place in range(n):
        if len([own for own in places if own == place]) != 1:
            return place
    return None


def called_small(family, out, kept, order):
    """The SMALL one, its place j being the j-th place of the order, in which all its places are."""
    small = small_one(family, out, kept)
    return len(order), tuple(sorted([called_by(member, order) for member in small[1]]))


def bad_weights(family, paper):
    """The WEIGHTS that a BAD paper for a FAMILY tells."""
    out, kept, order, word = paper
    price = price_of(word, len(order))
    # A kept place is so dear that no cheaper MEETER has it, and one left out costs nothing.
    return tuple([weight_at(place, out, kept, price) for place in range(family[0])])


def weight_at(place, out, kept, price):
    """The weight of a place: nought where it is left out, the price where it is kept, else 1."""
    if place in out:
        return 0
    return price if place in kept else 1
