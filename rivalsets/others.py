"""MEETERs of a FAMILY, and its OTHER: the FAMILY of its least ones."""

from rivalsets.families import least_ones
from rivalsets.sets import all_sets, do_meet, taken_from


def is_meeter(family, some):
    """Whether a SET meets each member."""
    return first_unmet(family, some) is None


def first_unmet(family, some):
    """The number of the first member that a SET doesn't meet; None where it meets each."""
    for at, member in enumerate(family[1]):
        if not do_meet(member, some):
            return at
    return None


def least_within(family, some):
    """A least meeter within a SET; None where the SET is no meeter itself."""
    if not is_meeter(family, some):
        return None
    least = some
    # A place that cannot go now cannot go later either, when there is less beside it: once through is enough.
    for place in some:
        fewer = taken_from(least, (place,))
        if is_meeter(family, fewer):
            least = fewer
    return least


def other_family(family):
    """The OTHER family."""
    n = family[0]
    return least_ones(n, [some for some in all_sets(n) if is_meeter(family, some)])


def shortest(family):
    """How many places the smallest members have; None of VOID."""
    return min([len(member) for member in family[1]], default=None)


def fewest(family):
    """How many places the smallest meeters have; None of WHOLE."""
    return shortest(other_family(family))
