"""PAIRs of a meeter and a PACK: their checker, which seeks nothing."""

from rivalsets.errors import NoPaper
from rivalsets.kinds import is_headed
from rivalsets.others import first_unmet
from rivalsets.packs import refuse_wrong_counts, size_of
from rivalsets.sets import is_set
from rivalsets.weights import cost_of


def lets_pair(family, weights, thing):
    """True where any thing is a PAIR for a FAMILY and WEIGHTS; else NoPaper."""
    if not is_pair_shaped(family[0], thing):
        raise NoPaper("shape", 0)
    meeter, pack = thing[1:]
    unmet = first_unmet(family, meeter)
    if unmet is not None:
        raise NoPaper("member", unmet)
    refuse_wrong_counts(family, weights, pack)
    if size_of(pack) != cost_of(weights, meeter):
        raise NoPaper("size", 0)
    return True


def is_pair_shaped(n, thing):
    """Whether any thing is a PAIR by kind, whatever is in its pack."""
    return is_headed(thing, "pair", 3) and is_set(n, thing[1]) and isinstance(thing[2], tuple)
