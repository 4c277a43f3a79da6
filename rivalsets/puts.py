"""Families put together, and families with one place more."""

from rivalsets.errors import TooMany
from rivalsets.families import least_ones
from rivalsets.kinds import MOST_PLACES
from rivalsets.sets import taken_from


def places_bounded(many):
    """The count of places itself; TooMany where there are not so many."""
    if many > MOST_PLACES:
        raise TooMany("places")
    return many


def shifted(family, by):
    """The members, each place greater by so much."""
    return [tuple([place + by for place in member]) for member in family[1]]


def beside(one, other):
    """The least ones of all members of both, the other's places behind the one's."""
    n = places_bounded(one[0] + other[0])
    return least_ones(n, list(one[1]) + shifted(other, one[0]))


def crossed(one, other):
    """Each member of the one put together with each of the other, whose places are behind the one's."""
    n = places_bounded(one[0] + other[0])
    behind = shifted(other, one[0])
    return n, tuple(sorted([first + second for first in one[1] for second in behind]))


def doubled(family, place):
    """One place more, which stands for the place in a copy of each member that has it."""
    n, members = family
    many = places_bounded(n + 1)
    copies = [taken_from(member, (place,)) + (n,) for member in members if place in member]
    return many, tuple(sorted([*members, *copies]))


def spread(family, place):
    """One place more, in each member that has the place."""
    n, members = family
    many = places_bounded(n + 1)
    return many, tuple(sorted([member + (n,) if place in member else member for member in members]))
