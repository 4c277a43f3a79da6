"""DUAL papers: their checker, which seeks nothing, SETs that part two families, and papers turned about."""

from rivalsets.errors import NoPaper
from rivalsets.families import does_hold
from rivalsets.kinds import is_headed, is_number_below
from rivalsets.others import is_meeter
from rivalsets.sets import is_within, put_together, taken_from


def lets_dual(one, other, thing):
    """True where any thing is a DUAL paper for two families; else NoPaper."""
    for at, member in enumerate(one[1]):
        if not is_meeter(other, member):
            raise NoPaper("apart", at)
    waiting = [(thing, (), ())]
    number = 0
    while waiting:
        part, taken, left_out = waiting.pop()
        word = fault_of(one, other, part, taken, left_out)
        if word is not None:
            raise NoPaper(word, number)
        if part[0] == "split":
            place = (part[1],)
            # What is put in last comes out first: all of a split's first ahead of its second.
            waiting.append((part[3], taken, put_together(left_out, place)))
            waiting.append((part[2], put_together(taken, place), left_out))
        number += 1
    return True


def fault_of(one, other, part, taken, left_out):
    """The word for the first fault of a part itself, whatever is in its first and second; None where it has none."""
    if is_end(part, "one", one):
        return None if is_within(one[1][part[1]], taken) else "within"
    if is_end(part, "other", other):
        return None if is_within(other[1][part[1]], left_out) else "within"
    if not is_headed(part, "split", 4) or not is_number_below(part[1], one[0]):
        return "shape"
    return "place" if part[1] in taken + left_out else None


def is_end(part, word, family):
    """Whether a thing is the word with the number of a member of the family."""
    return is_headed(part, word, 2) and is_number_below(part[1], len(family[1]))


def does_part(one, other, some):
    """Whether a SET parts two families."""
    leaves = taken_from(tuple(range(one[0])), some)
    return does_hold(one, some) == does_hold(other, leaves)


def turned_about(paper):
    """The DUAL paper for the other and the one."""
    if paper[0] == "split":
        word, place, first, second = paper
        return word, place, turned_about(second), turned_about(first)
    return ("other" if paper[0] == "one" else "one"), paper[1]
