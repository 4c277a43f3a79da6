"""The NAMED families, none of which comes out even by weights of 1 each, and their PRICEs."""

from rivalsets.others import other_family

SIZES = {
    "round": (3, 5, 7),
    "covers": (5, 7),
    "fan": (4, 5, 6, 7, 8),
    "four": (6,),
    "plane": (7,),
}
FOUR = (6, ((0, 2, 4), (0, 3, 5), (1, 2, 5), (1, 3, 4)))
PLANE = (7, ((0, 1, 2), (0, 3, 4), (0, 5, 6), (1, 3, 5), (1, 4, 6), (2, 3, 6), (2, 4, 5)))


def named_family(word, k):
    """The FAMILY of k places that is NAMED by a word; None where there is none."""
    if k not in SIZES.get(word, ()):
        return None
    if word == "round":
        return round_family(k)
    if word == "covers":
        return other_family(round_family(k))
    if word == "fan":
        return fan_family(k)
    return FOUR if word == "four" else PLANE


def round_family(k):
    """Each place with the next one, the last one with the first."""
    stretch = [(place, place + 1) for place in range(k - 1)]
    return k, tuple(sorted(stretch + [(0, k - 1)]))


def fan_family(k):
    """All places but the last one, and each of these with the last one."""
    last = k - 1
    blades = [(place, last) for place in range(last)]
    return k, tuple(sorted(blades + [tuple(range(last))]))


def price_of(word, k):
    """What the cheapest MEETER of a NAMED family costs by weights of 1 each."""
    if word == "round":
        return (k + 1) // 2
    return 3 if word == "plane" else 2
