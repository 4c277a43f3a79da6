"""WEBs of spots and ties, and the FAMILIES of the ties that join two spots or cut them apart."""

from rivalsets.families import least_ones
from rivalsets.kinds import is_number_below, is_number_from, is_tuple_of
from rivalsets.sets import all_sets, taken_from

MOST_SPOTS = 6
MOST_TIES = 8


def is_web(thing):
    """Whether any thing is a WEB."""
    if not is_tuple_of(thing, 2):
        return False
    many, ties = thing
    if not is_number_from(many, 1) or many > MOST_SPOTS:
        return False
    if not isinstance(ties, tuple) or len(ties) > MOST_TIES:
        return False
    return all(is_tie(many, tie) for tie in ties)


def is_tie(many, thing):
    """Whether any thing is a tie between two of so many SPOTS, the lower one first."""
    if not is_tuple_of(thing, 2) or not all(is_number_below(spot, many) for spot in thing):
        return False
    return thing[0] < thing[1]


def ways_family(web, a, b):
    """The FAMILY of the least SETs of ties that join two SPOTS."""
    many = len(web[1])
    return least_ones(many, [some for some in all_sets(many) if do_join(web, some, a, b)])


def cuts_family(web, a, b):
    """The FAMILY of the least SETs of ties without which two SPOTS aren't joined."""
    many = len(web[1])
    every = tuple(range(many))
    return least_ones(many, [some for some in all_sets(many) if not do_join(web, taken_from(every, some), a, b)])


def do_join(web, some, a, b):
    """Whether the ties of a SET join two SPOTS."""
    many, ties = web
    # Spots with one mark are joined by the ties so far: a tie gives the marks of both its ends the one mark.
    marks = list(range(many))
    for number in some:
        i, j = ties[number]
        lost, kept = marks[i], marks[j]
        marks = [kept if mark == lost else mark for mark in marks]
    return marks[a] == marks[b]
