"""Where two FAMILIES that should be one are not."""


def first_unlike(named, family):
    """("lacks", i), i the first member of the named one that the other lacks; ("more", i), the other way; else None."""
    lacking = first_missing(named, family)
    if lacking is not None:
        return "lacks", lacking
    more = first_missing(family, named)
    return None if more is None else ("more", more)


def first_missing(one, other):
    """The least number of a member of the one that isn't one of the other's; None where all are."""
    for at, member in enumerate(one[1]):
        if member not in other[1]:
            return at
    return None
