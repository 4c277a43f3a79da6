"""What is told of a FAMILY and WEIGHTS: a PAIR, or that a meeter and a PACK stay apart."""

from rivalsets.packs import most_packed, size_of
from rivalsets.weights import cheapest, cost_of


def pair_told(family, weights):
    """A PAIR where there is one, else ("apart", meeter, pack) of a cheapest and a GREATEST one; None of WHOLE."""
    meeter = cheapest(family, weights)
    if meeter is None:
        return None
    pack = most_packed(family, weights)
    # There is a PAIR only where the least COST is the greatest SIZE: any two such tell.
    word = "pair" if size_of(pack) == cost_of(weights, meeter) else "apart"
    return word, meeter, pack
