"""DEEDs, what a family becomes by them, and the checker of STEPS: it compares and seeks nothing."""

from rivalsets.errors import NoSteps
from rivalsets.families import least_ones
from rivalsets.kinds import is_headed, is_number_below, is_tuple_of
from rivalsets.minors import kept_at, without_place
from rivalsets.sets import do_meet, is_set, is_within, put_together, shared_by


def is_deed(n, thing):
    """Whether any thing is a DEED of n places."""
    if not is_tuple_of(thing, 2):
        return False
    word, what = thing
    if word == "put":
        return is_set(n, what)
    if word == "without" or word == "keep":
        return is_number_below(what, n)
    return False


def becomes(family, deed):
    """What a family becomes by a DEED."""
    word, what = deed
    if word == "put":
        return least_ones(family[0], list(family[1]) + [what])
    if word == "without":
        return without_place(family, what)
    return kept_at(family, what)


def lets_steps(one, other, deed, thing):
    """True where any thing is STEPS and what they say is so; else NoSteps."""
    if is_held(one, deed, thing):
        if not is_within(one[1][thing[1]], deed[1]):
            raise NoSteps("wrong", -1)
        return True
    if not is_tuple_of(thing, len(other[1])):
        raise NoSteps("shape", -1)
    for at, entry in enumerate(thing):
        if not is_entry(one, other, deed, other[1][at], entry):
            raise NoSteps("shape", at)
        if not is_entry_so(one, other, deed, other[1][at], entry):
            raise NoSteps("wrong", at)
    return True


def is_held(one, deed, thing):
    """Whether a thing is ("held", k) for a put, k the number of a member of one."""
    return deed[0] == "put" and is_headed(thing, "held", 2) and is_number_below(thing[1], len(one[1]))


def are_numbers(thing, family, member):
    """Whether a thing is a tuple with, for each place of a member, the number of a member of the family."""
    if not is_tuple_of(thing, len(member)):
        return False
    return all(is_number_below(number, len(family[1])) for number in thing)


def is_entry(one, other, deed, member, entry):
    """Whether a thing has the form of an ENTRY for this DEED and this member of other."""
    if deed[0] == "put":
        return is_headed(entry, "stays", 1) or is_growing(one, other, deed[1], member, entry)
    if deed[0] == "keep":
        return is_headed(entry, "stays", 1) or is_headed(entry, "goes", 1)
    if is_headed(entry, "stays", 2):
        return are_numbers(entry[1], one, member)
    if is_headed(entry, "goes", 2):
        return is_number_below(entry[1], len(other[1]))
    return is_headed(entry, "less", 1)


def is_growing(one, other, some, member, entry):
    """Whether a thing has the form of ("grows", rows) for a put of this SET."""
    if not is_headed(entry, "grows", 2) or not is_tuple_of(entry[1], len(some)):
        return False
    return all(is_row(one, other, member, row) for row in entry[1])


def is_row(one, other, member, row):
    """Whether a thing has the form of a row for one place that is put."""
    if is_headed(row, "new", 2):
        return are_numbers(row[1], one, member)
    return is_headed(row, "has", 2) and is_number_below(row[1], len(other[1]))


def is_entry_so(one, other, deed, member, entry):
    """Whether what an ENTRY says of its member is so."""
    word, what = deed
    if word == "put":
        if entry[0] == "stays":
            return do_meet(member, what)
        return not do_meet(member, what) and are_rows_so(one, other, what, member, entry[1])
    if word == "keep":
        return what in member if entry[0] == "goes" else what not in member
    if entry[0] == "less":
        return what in member
    if what in member:
        return False
    if entry[0] == "stays":
        return are_alone(one, entry[1], member, what)
    return is_over(other, entry[1], member, what)


def are_rows_so(one, other, some, member, rows):
    """Whether what each row says of its place is so."""
    for place, row in zip(some, rows):
        if row[0] == "new" and not are_alone(one, row[1], member, place):
            return False
        if row[0] == "has" and not is_over(other, row[1], member, place):
            return False
    return True


def are_alone(one, numbers, member, place):
    """Whether each told member of one meets the member with the place just at the place that it is told for."""
    # For a place that is left out this says, too, that the told member hasn't it: else it would be shared.
    wide = put_together(member, (place,))
    for own, number in zip(member, numbers):
        if shared_by(one[1][number], wide) != (own,):
            return False
    return True


def is_over(other, number, member, place):
    """Whether the told member of other has the place and is within the member with the place."""
    # To be within the member with the place is to be within the member once the place is taken away.
    told = other[1][number]
    return place in told and is_within(told, put_together(member, (place,)))
