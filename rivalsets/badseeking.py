"""What is told of a FAMILY of few places: a BAD paper, and the VERDICT."""

from rivalsets.badchecker import called_small
from rivalsets.bads import SIZES, named_family
from rivalsets.looking import look_told
from rivalsets.sets import all_sets, do_meet, put_together, taken_from


def bad_told(family):
    """A BAD paper for a FAMILY; None where there is none."""
    for out in all_sets(family[0]):
        for kept in all_sets(family[0]):
            if not do_meet(out, kept):
                paper = paper_by(family, out, kept)
                if paper is not None:
                    return paper
    return None


def paper_by(family, out, kept):
    """A BAD paper by which just these places are left out and kept; None where there is none."""
    places = taken_from(tuple(range(family[0])), put_together(out, kept))
    small = called_small(family, out, kept, places)
    for word in SIZES:
        named = named_family(word, len(places))
        # Other names for its places leave the members as long as they are: most go here.
        if named is not None and lengths_of(named) == lengths_of(small):
            order = order_by(family, out, kept, places, named)
            if order is not None:
                return out, kept, order, word
    return None


def lengths_of(family):
    """How many places each member has, rising."""
    return sorted([len(member) for member in family[1]])


def order_by(family, out, kept, places, named):
    """An order of the places by which the SMALL one is the NAMED one; None where there is none."""
    for order in orders_of(places):
        if called_small(family, out, kept, order) == named:
            return order
    return None


def orders_of(places):
    """All tuples of these places, each place once."""
    if not places:
        return [()]
    return [(first,) + rest for first in places for rest in orders_of(taken_from(places, (first,)))]


def verdict(family):
    """("bad", paper) where there is a BAD paper, ("look", paper) where a LOOK is told, else ("open",)."""
    bad = bad_told(family)
    if bad is not None:
        return "bad", bad
    look = look_told(family)
    return ("open",) if look is None else ("look", look)
