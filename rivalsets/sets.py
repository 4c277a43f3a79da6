"""SETs: rising tuples of unlike places."""

from rivalsets.kinds import is_number_below


def is_set(n, thing):
    """Whether any thing is a SET of n places."""
    if not isinstance(thing, tuple):
        return False
    last = -1
    for place in thing:
        if not is_number_below(place, n) or place <= last:
            return False
        last = place
    return True


def is_within(one, other):
    """Whether each place of the one is in the other."""
    return all(place in other for place in one)


def do_meet(one, other):
    """Whether the two share a place."""
    return any(place in other for place in one)


def put_together(one, other):
    """The SET of all places of either."""
    return tuple(sorted(one + taken_from(other, one)))


def taken_from(one, other):
    """The SET of the places of the one that are not in the other."""
    return tuple([place for place in one if place not in other])


def shared_by(one, other):
    """The SET of the places of both."""
    return tuple([place for place in one if place in other])


def all_sets(n):
    """All SETs of n places: those of fewer places ahead, of as many as Python sorts them."""
    told = [()]
    longest = [()]
    for size in range(n):
        # A SET of the size in hand is made longer by places behind its last one: this keeps the order.
        longest = [some + (place,) for some in longest for place in range(first_behind(some), n)]
        told = told + longest
    return told


def first_behind(some):
    """The least place that is greater than all of a SET's."""
    return some[-1] + 1 if some else 0
