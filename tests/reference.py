"""What the tests compare with: the document's words by plain counting over bits, without the package."""

import random
from itertools import combinations


def bits(some):
    return sum(1 << place for place in some)


def places(mask):
    return tuple(place for place in range(mask.bit_length()) if mask >> place & 1)


def subsets(n):
    return [some for size in range(n + 1) for some in combinations(range(n), size)]


def least(masks):
    unlike = set(masks)
    return {mask for mask in unlike if not any(low != mask and low & mask == low for low in unlike)}


def as_family(n, masks):
    """The FAMILY of the least of the masks."""
    return n, tuple(sorted(places(mask) for mask in least(masks)))


def masks_of(family):
    return [bits(member) for member in family[1]]


def holds(family, mask):
    return any(low & mask == low for low in masks_of(family))


def meets_all(family, mask):
    return all(low & mask for low in masks_of(family))


def other_of(family):
    members = masks_of(family)
    return as_family(family[0], [mask for mask in range(1 << family[0]) if all(low & mask for low in members)])


def every_family(n):
    """All FAMILIES of n places (n at most 4)."""
    told = [[]]
    for mask in range(1 << n):
        told += [old + [mask] for old in told
                 if not any(low & mask in (low, mask) for low in old)]
    return [(n, tuple(sorted(places(mask) for mask in masks))) for masks in told]


def small_families():
    return [family for n in range(5) for family in every_family(n)]


def layer(n, size):
    """All SETs of n places with so many places."""
    return n, tuple(combinations(range(n), size))


def chance_family(source, n, most):
    return as_family(n, [source.randrange(1 << n) or 1 for count in range(source.randrange(most + 1))])


def large_families():
    """Some FAMILIES of five to eight places, those of seventy members among them."""
    source = random.Random(20261118)
    told = [layer(8, 4), layer(8, 3), layer(8, 1), layer(8, 8), layer(7, 3), (8, ()), (8, ((),))]
    for n in range(5, 9):
        for most in (3, 6, 12, 40):
            told.append(chance_family(source, n, most))
    return told


def nested(depth, core=()):
    for count in range(depth):
        core = (core,)
    return core


def listed(depth):
    core = []
    for count in range(depth):
        core = [core]
    return core


def odd_things():
    """Any things that are no SET, no FAMILY, no DEED and no STEPS of anything."""
    return [
        None, True, False, 0, 1, -1, 7, 10 ** 399, -10 ** 399, "", "-", "0", "0,1", "put", "stays", "family 2",
        [], [[]], [()], [0], [0, 1], listed(39), nested(39), nested(39, 10 ** 399), (None,), (True,), (False,),
        (True, ()), (False, ()), (0, True), (0, []), (0, None), ("0",), ("put",), ("put", ()) + ((),),
        ("put", None), ("put", []), ("put", (True,)), ("put", "0"), ("keep", True), ("keep", "0"), ("keep", -1),
        ("keep", 10 ** 399), ("without", None), ("held",), ("held", True), ("held", None), ["held", 0],
        ["put", ()], ["keep", 0], (["put"], ()), (("put",), ()), tuple(range(20000)), tuple([()] * 5000),
    ]


def refusal(kind, asked, *told):
    """The refusal of just this kind that a call ends with; anything else fails."""
    try:
        answer = asked(*told)
    except kind as refused:
        if type(refused) is not kind:
            raise AssertionError(f"{type(refused)} is not just {kind}")
        return refused
    raise AssertionError(f"not refused, but {answer!r}")
