"""What is told of a FAMILY of few places: a LOOK of the sorts "parts" and "tree"."""

from rivalsets.lookchecker import NONE_ABOVE, fault_of_parts, fault_of_tree
from rivalsets.sets import all_sets


def look_told(family):
    """A LOOK of the sorts "parts" and "tree" for a FAMILY; None where there is none."""
    # Of WHOLE none is found: its member hasn't two places and is no row.
    for side in all_sets(family[0]):
        if fault_of_parts(family, side) is None:
            return "parts", side
    parents = parents_from(family, ())
    return None if parents is None else ("tree", parents)


def parents_from(family, known):
    """Places above all places, those above the first ones being known, by which each member is a row; else None."""
    if len(known) == family[0]:
        return known if fault_of_tree(family, known) is None else None
    for above in places_above(family, len(known)):
        wider = known + (above,)
        if all(can_be_row(wider, member) for member in family[1]):
            parents = parents_from(family, wider)
            if parents is not None:
                return parents
    return None


def places_above(family, place):
    """What may stand above a place: none, or another place of a member that it is in."""
    # A place above that shares no member with it is of use to no row.
    others = [own for own in range(family[0]) if own != place]
    return [NONE_ABOVE] + [own for own in others if any(own in member and place in member for member in family[1])]


def can_be_row(known, member):
    """Whether a member may still be a row: one way out of it upwards at most, and no two ways to one place."""
    above = [known[place] for place in member if place < len(known)]
    within = [place for place in above if place in member]
    return len(above) - len(within) <= 1 and len(set(within)) == len(within)
