"""CASES: their checker, which seeks nothing, and their REACH."""

from rivalsets.errors import NoPaper
from rivalsets.kinds import is_headed, is_number_below
from rivalsets.sets import do_meet, put_together, taken_from
from rivalsets.weights import cost_of


def lets_cases(family, weights, bound, thing):
    """True where any thing is CASES for a FAMILY, WEIGHTS and a BOUND; else NoPaper."""
    waiting = [(thing, (), ())]
    number = 0
    while waiting:
        part, taken, left_out = waiting.pop()
        word = fault_of(family, part, taken, left_out)
        if word is not None:
            raise NoPaper(word, number)
        if part[0] == "member":
            # What is put in last comes out first: so the first row is put in last.
            waiting.extend(rows_of(family, part, taken, left_out)[::-1])
        elif cost_of(weights, taken) < bound:
            raise NoPaper("cheap", number)
        number += 1
    return True


def fault_of(family, part, taken, left_out):
    """The word for the first fault of a part itself, but for what it costs; None where it has none."""
    if is_headed(part, "enough", 1):
        return None
    if not is_member_part(family, part):
        return "shape"
    member = family[1][part[1]]
    if do_meet(member, taken):
        return "met"
    return None if len(part[2]) == len(taken_from(member, left_out)) else "rows"


def is_member_part(family, part):
    """Whether a thing is ("member", k, rows) by kind, whatever is in the rows."""
    if not is_headed(part, "member", 3):
        return False
    return is_number_below(part[1], len(family[1])) and isinstance(part[2], tuple)


def rows_of(family, part, taken, left_out):
    """The rows of a member's part, each with what is TAKEN and what is LEFT OUT in it."""
    places = taken_from(family[1][part[1]], left_out)
    rows = []
    for at, row in enumerate(part[2]):
        rows.append((row, put_together(taken, (places[at],)), put_together(left_out, places[:at])))
    return rows


def reach_of(family, weights, paper):
    """The least COST of what is TAKEN at an ("enough",) in CASES that are let by; None where there is none."""
    waiting = [(paper, (), ())]
    costs = []
    while waiting:
        part, taken, left_out = waiting.pop()
        if part[0] == "member":
            waiting.extend(rows_of(family, part, taken, left_out))
        else:
            costs.append(cost_of(weights, taken))
    return min(costs, default=None)
