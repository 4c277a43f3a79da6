"""What kind a thing is: the small questions that all modules share."""

MOST_PLACES = 8


def is_whole(thing):
    """Whether a thing is a whole number."""
    # Python counts True and False among the integers; here they are none.
    return isinstance(thing, int) and not isinstance(thing, bool)


def is_number_below(thing, many):
    """Whether a thing is one of the numbers that count so many, from 0 on."""
    return is_whole(thing) and 0 <= thing < many


def is_number_from(thing, least):
    """Whether a thing is a whole number that is no less."""
    return is_whole(thing) and thing >= least


def is_tuple_of(thing, many):
    """Whether a thing is a tuple of so many things."""
    return isinstance(thing, tuple) and len(thing) == many


def is_headed(thing, word, many):
    """Whether a thing is a tuple of so many things, the first of them this word."""
    return is_tuple_of(thing, many) and thing[0] == word
