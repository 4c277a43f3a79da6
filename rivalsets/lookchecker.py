"""LOOKs, by which a FAMILY comes out even whatever the weights: their checker, which seeks nothing."""

from rivalsets.errors import NoPaper
from rivalsets.families import whole_family
from rivalsets.kinds import is_headed, is_number_below, is_tuple_of, is_whole
from rivalsets.likes import first_unlike
from rivalsets.sets import is_set, shared_by
from rivalsets.webs import cuts_family, is_web, ways_family

NONE_ABOVE = -1


def lets_look(family, thing):
    """True where any thing is a LOOK for a FAMILY; else NoPaper."""
    if not is_look_shaped(family[0], thing):
        raise NoPaper("shape", 0)
    if family == whole_family(family[0]):
        raise NoPaper("whole", 0)
    fault = fault_of(family, thing)
    if fault is not None:
        raise NoPaper(fault[0], fault[1])
    return True


def is_look_shaped(n, thing):
    """Whether any thing is a LOOK by kind."""
    if is_headed(thing, "parts", 2):
        return is_set(n, thing[1])
    if is_headed(thing, "tree", 2):
        return are_parents(n, thing[1])
    if not is_headed(thing, "ways", 4) and not is_headed(thing, "cuts", 4):
        return False
    return is_web(thing[1]) and all(is_number_below(spot, thing[1][0]) for spot in thing[2:])


def are_parents(n, thing):
    """Whether any thing is a tuple that tells for each of n places a place above it, or none."""
    return is_tuple_of(thing, n) and all(is_whole(above) and NONE_ABOVE <= above < n for above in thing)


def fault_of(family, look):
    """The word and the number of the first fault of what is a LOOK by kind; None where it has none."""
    if look[0] == "parts":
        return fault_of_parts(family, look[1])
    if look[0] == "tree":
        return fault_of_tree(family, look[1])
    return fault_of_web(family, look)


def fault_of_parts(family, side):
    """The fault of the first member that hasn't two places, just one of them in the side; None where each has."""
    for at, member in enumerate(family[1]):
        if len(member) != 2:
            return "two", at
        if len(shared_by(member, side)) != 1:
            return "side", at
    return None


def fault_of_tree(family, parents):
    """The first place from which going up doesn't end, else the first member that is no row; None where all is well."""
    for place in range(family[0]):
        # Going up that ends comes to no place twice.
        if len(row_up(parents, place, family[0] + 1)) > family[0]:
            return "endless", place
    for at, member in enumerate(family[1]):
        if not is_row(parents, member):
            return "row", at
    return None


def row_up(parents, place, most):
    """The places from this one upwards, so many at most."""
    row = []
    while place != NONE_ABOVE and len(row) < most:
        row.append(place)
        place = parents[place]
    return row


def is_row(parents, member):
    """Whether a member's places are a row that goes up from one of them."""
    return any(tuple(sorted(row_up(parents, place, len(member)))) == member for place in member)


def fault_of_web(family, look):
    """What the FAMILY of a web's ways or cuts has otherwise; None where it is the FAMILY."""
    word, web, a, b = look
    many = len(web[1])
    if many != family[0]:
        return "ties", many
    named = ways_family(web, a, b) if word == "ways" else cuts_family(web, a, b)
    return first_unlike(named, family)
