"""SHARED papers: their checker, which seeks nothing."""

from rivalsets.errors import NoPaper
from rivalsets.kinds import is_headed, is_number_from, is_tuple_of
from rivalsets.packs import refuse_wrong_counts, size_of
from rivalsets.weights import cost_of


def lets_shared(family, weights, thing):
    """True where any thing is a SHARED paper for a FAMILY and WEIGHTS; else NoPaper."""
    if not is_shared_shaped(family[0], thing):
        raise NoPaper("shape", 0)
    bottom, rows, covers = thing[1:]
    refuse_wrong_counts(family, [bottom * weight for weight in weights], rows)
    for at, member in enumerate(family[1]):
        if cost_of(covers, member) < bottom:
            raise NoPaper("member", at)
    if size_of(rows) != sum([weight * cover for weight, cover in zip(weights, covers)]):
        raise NoPaper("number", 0)
    return True


def is_shared_shaped(n, thing):
    """Whether any thing is a SHARED paper by kind, whatever is in its rows."""
    if not is_headed(thing, "shared", 4) or not is_number_from(thing[1], 1):
        return False
    return isinstance(thing[2], tuple) and are_covers(n, thing[3])


def are_covers(n, thing):
    """Whether any thing is a tuple of n whole numbers from 0 on."""
    return is_tuple_of(thing, n) and all(is_number_from(cover, 0) for cover in thing)
