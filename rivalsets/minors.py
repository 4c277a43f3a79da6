"""Families with places left out, kept, and narrowed to some places."""

from rivalsets.families import least_ones
from rivalsets.sets import is_within, taken_from


def without_place(family, place):
    """The members in which the place isn't."""
    n, members = family
    return n, tuple([member for member in members if place not in member])


def kept_at(family, place):
    """The least ones of all members, the place taken from them."""
    n, members = family
    return least_ones(n, [taken_from(member, (place,)) for member in members])


def small_one(family, out, kept):
    """The family without each place of out and kept at each place of kept."""
    small = family
    for place in out:
        small = without_place(small, place)
    for place in kept:
        small = kept_at(small, place)
    return small


def narrowed(family, places):
    """The members within some places, each place called by how many of these are below it."""
    within = [member for member in family[1] if is_within(member, places)]
    return len(places), tuple(sorted([called_by(member, places) for member in within]))


def called_by(member, places):
    """A member within some places, each of its places called by where it stands among these."""
    return tuple([number for number, place in enumerate(places) if place in member])
