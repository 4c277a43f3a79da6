"""PACKs of a FAMILY by WEIGHTS: how often its members are counted, each place no more often than its weight."""

from rivalsets.errors import NoPaper
from rivalsets.families import whole_family
from rivalsets.kinds import is_number_from, is_tuple_of
from rivalsets.sets import is_set


def is_pack(family, weights, thing):
    """Whether any thing is a PACK for a FAMILY and WEIGHTS."""
    if not isinstance(thing, tuple) or wrong_entry(family, thing) is not None:
        return False
    return crowded_place(weights, thing) is None


def refuse_wrong_counts(family, bounds, rows):
    """NoPaper where a tuple doesn't count members as a PACK does, by a bound for each place."""
    entry = wrong_entry(family, rows)
    if entry is not None:
        raise NoPaper("entry", entry)
    place = crowded_place(bounds, rows)
    if place is not None:
        raise NoPaper("place", place)


def wrong_entry(family, rows):
    """The number of the first thing that isn't a member with a count, behind the member ahead; None where all are."""
    for at, entry in enumerate(rows):
        if not is_counted(family, entry) or at > 0 and entry[0] <= rows[at - 1][0]:
            return at
    return None


def is_counted(family, entry):
    """Whether any thing is a tuple of a member of the FAMILY and a count."""
    if not is_tuple_of(entry, 2) or not is_number_from(entry[1], 1):
        return False
    # Asked for its kind first: to Python (True,) is (1,).
    return is_set(family[0], entry[0]) and entry[0] in family[1]


def crowded_place(bounds, pack):
    """The first place at which the counts come to more than its bound; None where there is none."""
    for place, bound in enumerate(bounds):
        if count_at(pack, place) > bound:
            return place
    return None


def count_at(pack, place):
    """The counts of those members that a place is in, added."""
    return sum([count for member, count in pack if place in member])


def size_of(pack):
    """The SIZE of a PACK."""
    return sum([count for member, count in pack])


def full_places(family, weights, pack):
    """The SET of the places at which the counts come to just their weight."""
    return tuple([place for place in range(family[0]) if count_at(pack, place) == weights[place]])


def grown_pack(family, weights, pack):
    """A GROWN PACK in which each member has at least its count; None of WHOLE."""
    if family == whole_family(family[0]):
        return None
    room = [weight - count_at(pack, place) for place, weight in enumerate(weights)]
    counts = {member: count for member, count in pack}
    # Once a member has a FULL place it has one for good: once through is enough.
    for member in family[1]:
        more = min([room[place] for place in member])
        counts[member] = counts.get(member, 0) + more
        room = [left - more if place in member else left for place, left in enumerate(room)]
    return tuple([(member, counts[member]) for member in family[1] if counts[member]])


def most_packed(family, weights):
    """A GREATEST PACK; None of WHOLE."""
    if family == whole_family(family[0]):
        return None
    # By what is left of the weights: members, one for each time that they are counted. What is left is all that
    # matters for the ones to come, so one way to come to it is enough.
    ways = {weights: ()}
    wider = counted_once_more(family, ways)
    while wider:
        ways = wider
        wider = counted_once_more(family, ways)
    last = list(ways.values())[0]
    return tuple([(member, times(member, last)) for member in family[1] if member in last])


def counted_once_more(family, ways):
    """All that is left of the weights when one member more is counted, each with one way to come to it."""
    wider = {}
    for left in ways:
        for member in family[1]:
            if all(left[place] for place in member):
                less = tuple([weight - 1 if place in member else weight for place, weight in enumerate(left)])
                wider[less] = ways[left] + (member,)
    return wider


def times(member, members):
    """How often a member is among these."""
    return len([some for some in members if some == member])
