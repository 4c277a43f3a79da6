"""FAMILIES: tuples (n, sets) of SETs of n places, none within another."""

from rivalsets.kinds import MOST_PLACES, is_number_below, is_tuple_of
from rivalsets.sets import is_set, is_within


def is_family(thing):
    """Whether any thing is a FAMILY."""
    if not is_tuple_of(thing, 2):
        return False
    n, members = thing
    if not is_number_below(n, MOST_PLACES + 1) or not isinstance(members, tuple):
        return False
    for at, some in enumerate(members):
        if not is_set(n, some) or not can_follow(members[:at], some):
            return False
    return True


def can_follow(ahead, some):
    """Whether a SET may stand as a member behind these ones."""
    return all(low < some and not is_within(low, some) and not is_within(some, low) for low in ahead)


def void_family(n):
    """The FAMILY of n places without members."""
    return n, ()


def whole_family(n):
    """The FAMILY of n places whose one member is ()."""
    return n, ((),)


def least_ones(n, sets):
    """The FAMILY of those of the SETs within which no other one of them is."""
    least = []
    # What is within a SET, and is not that SET, is shorter: so it comes ahead.
    for some in sorted(sets, key=len):
        if not any(is_within(low, some) for low in least):
            least.append(some)
    return n, tuple(sorted(least))


def does_hold(family, some):
    """Whether some member is within the SET."""
    return any(is_within(member, some) for member in family[1])
