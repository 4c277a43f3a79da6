"""Own STEPS for a DEED, and what stands behind STEPS that are let by."""

from rivalsets.sets import do_meet, is_within, put_together, shared_by, taken_from
from rivalsets.stepchecker import becomes, is_held


def steps_for(one, other, deed):
    """STEPS for two families that are each other's and a DEED."""
    return tuple([entry_for(one, other, deed, member) for member in other[1]])


def entry_for(one, other, deed, member):
    """The ENTRY of a member of other."""
    word, what = deed
    if word == "put":
        if do_meet(member, what):
            return ("stays",)
        return "grows", tuple([shown(one, other, member, place, "new", "has") for place in what])
    if word == "keep":
        return ("goes",) if what in member else ("stays",)
    if what in member:
        return ("less",)
    return shown(one, other, member, what, "stays", "goes")


def shown(one, other, member, place, alone, over):
    """The word alone with what shows the member least beside the place; else the word over with what shows it isn't."""
    wide = put_together(member, (place,))
    numbers = numbers_alone(one, member, wide)
    if numbers is not None:
        return alone, numbers
    return over, number_over(other, place, wide)


def numbers_alone(one, member, wide):
    """The numbers of members of one that share with wide just the member's places, one each; None where one lacks."""
    numbers = []
    for place in member:
        found = [k for k, some in enumerate(one[1]) if shared_by(some, wide) == (place,)]
        if not found:
            return None
        numbers.append(found[0])
    return tuple(numbers)


def number_over(other, place, wide):
    """The number of a member of other that has the place and is within wide."""
    # There is one: wide can do without a place of the member, so it holds another of other, which can't lack the place.
    found = [k for k, some in enumerate(other[1]) if place in some and is_within(some, wide)]
    return found[0]


def behind_steps(one, other, deed, steps):
    """What one becomes by the DEED, and what stands behind STEPS that are let by."""
    if is_held(one, deed, steps):
        return becomes(one, deed), other
    members = []
    for member, entry in zip(other[1], steps):
        members.extend(left_by(deed, member, entry))
    return becomes(one, deed), (other[0], tuple(sorted(members)))


def left_by(deed, member, entry):
    """The SETs that stand behind for one member of other."""
    if entry[0] == "stays":
        return [member]
    if entry[0] == "less":
        return [taken_from(member, (deed[1],))]
    if entry[0] == "grows":
        return [put_together(member, (place,)) for place, row in zip(deed[1], entry[1]) if row[0] == "new"]
    return []
