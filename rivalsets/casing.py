"""What is told of a BOUND: CASES, or a meeter that costs less."""

from rivalsets.others import first_unmet
from rivalsets.sets import put_together, taken_from
from rivalsets.weights import cheapest, cost_of


def cases_for(family, weights, bound):
    """("cases", paper) where no meeter costs less than the BOUND, else ("cheaper", X)."""
    meeter = cheapest(family, weights)
    if meeter is not None and cost_of(weights, meeter) < bound:
        return "cheaper", meeter
    return "cases", cases_below(family, weights, bound, (), ())


def cases_below(family, weights, bound, taken, left_out):
    """CASES where some places are TAKEN and LEFT OUT already, no meeter being cheaper than the BOUND."""
    if cost_of(weights, taken) >= bound:
        return ("enough",)
    # There is one: else what is TAKEN would be a meeter that costs less.
    number = first_unmet(family, taken)
    places = taken_from(family[1][number], left_out)
    rows = []
    for at, place in enumerate(places):
        more_out = put_together(left_out, places[:at])
        rows.append(cases_below(family, weights, bound, put_together(taken, (place,)), more_out))
    return "member", number, tuple(rows)
