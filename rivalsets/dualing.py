"""What is told of two families: a DUAL paper, or a SET that parts them."""

from rivalsets.dualchecker import does_part
from rivalsets.sets import all_sets, is_within


def dual_told(one, other):
    """("dual", paper) where the two are each other's, else ("parted", X)."""
    for some in all_sets(one[0]):
        if does_part(one, other, some):
            return "parted", some
    return "dual", tree_for(one, other, (), ())


def tree_for(one, other, taken, left_out):
    """A DUAL tree for two that no SET parts, where just the first places are TAKEN or LEFT OUT."""
    within_taken = numbers_within(one, taken)
    if within_taken:
        return "one", within_taken[0]
    within_left_out = numbers_within(other, left_out)
    if within_left_out:
        return "other", within_left_out[0]
    # There is a place yet: else what is TAKEN would part them.
    place = len(taken) + len(left_out)
    first = tree_for(one, other, taken + (place,), left_out)
    return "split", place, first, tree_for(one, other, taken, left_out + (place,))


def numbers_within(family, some):
    """The numbers of the members that are within a SET."""
    return [k for k, member in enumerate(family[1]) if is_within(member, some)]
