"""What the tests compare with: the document's words by plain counting over bits, without the package."""

import random
from fractions import Fraction
from functools import lru_cache
from itertools import combinations, permutations, product
from math import lcm


def bits(some):
    return sum(1 << place for place in some)


def places(mask):
    return tuple(place for place in range(mask.bit_length()) if mask >> place & 1)


def subsets(n):
    return [some for size in range(n + 1) for some in combinations(range(n), size)]


def least(masks):
    unlike = set(masks)
    return {mask for mask in unlike if not any(low != mask and low & mask == low for low in unlike)}


def as_family(n, masks):
    """The FAMILY of the least of the masks."""
    return n, tuple(sorted(places(mask) for mask in least(masks)))


def masks_of(family):
    return [bits(member) for member in family[1]]


def holds(family, mask):
    return any(low & mask == low for low in masks_of(family))


def meets_all(family, mask):
    return all(low & mask for low in masks_of(family))


def other_of(family):
    members = masks_of(family)
    return as_family(family[0], [mask for mask in range(1 << family[0]) if all(low & mask for low in members)])


def every_family(n):
    """All FAMILIES of n places (n at most 5)."""
    told = [[]]
    for mask in range(1 << n):
        told += [old + [mask] for old in told
                 if not any(low & mask in (low, mask) for low in old)]
    return [(n, tuple(sorted(places(mask) for mask in masks))) for masks in told]


def small_families():
    return [family for n in range(5) for family in every_family(n)]


def layer(n, size):
    """All SETs of n places with so many places."""
    return n, tuple(combinations(range(n), size))


def chance_family(source, n, most):
    return as_family(n, [source.randrange(1 << n) or 1 for count in range(source.randrange(most + 1))])


def large_families():
    """Some FAMILIES of five to eight places, those of seventy members among them."""
    source = random.Random(20261118)
    told = [layer(8, 4), layer(8, 3), layer(8, 1), layer(8, 8), layer(7, 3), (8, ()), (8, ((),))]
    for n in range(5, 9):
        for most in (3, 6, 12, 40):
            told.append(chance_family(source, n, most))
    return told


def nested(depth, core=()):
    for count in range(depth):
        core = (core,)
    return core


def listed(depth):
    core = []
    for count in range(depth):
        core = [core]
    return core


def odd_things():
    """Any things that are no SET, no FAMILY, no DEED and no STEPS of anything."""
    return [
        None, True, False, 0, 1, -1, 7, 10 ** 399, -10 ** 399, "", "-", "0", "0,1", "put", "stays", "family 2",
        [], [[]], [()], [0], [0, 1], listed(39), nested(39), nested(39, 10 ** 399), (None,), (True,), (False,),
        (True, ()), (False, ()), (0, True), (0, []), (0, None), ("0",), ("put",), ("put", ()) + ((),),
        ("put", None), ("put", []), ("put", (True,)), ("put", "0"), ("keep", True), ("keep", "0"), ("keep", -1),
        ("keep", 10 ** 399), ("without", None), ("held",), ("held", True), ("held", None), ["held", 0],
        ["put", ()], ["keep", 0], (["put"], ()), (("put",), ()), tuple(range(20000)), tuple([()] * 5000),
    ]


def refusal(kind, asked, *told):
    """The refusal of just this kind that a call ends with; anything else fails."""
    try:
        answer = asked(*told)
    except kind as refused:
        if type(refused) is not kind:
            raise AssertionError(f"{type(refused)} is not just {kind}")
        return refused
    raise AssertionError(f"not refused, but {answer!r}")


def said(kind, asked, *told):
    """What a checker says: True, or the word and the number of its refusal, which is of just this kind."""
    try:
        answer = asked(*told)
    except kind as refused:
        assert type(refused) is kind
        assert type(refused.word) is str and type(refused.number) is int
        return refused.word, refused.number
    assert answer is True
    return True


def turned(thing, words):
    """What a thing may be turned into at one spot of it: other kinds, words, numbers and lengths."""
    told = [None, [thing], (thing,), nested(30), 10 ** 399]
    if type(thing) is int:
        told += [thing - 1, thing + 1, thing + 2, -1, thing == 1, str(thing)]
    elif type(thing) is str:
        told += [word for word in words if word != thing]
    elif type(thing) is tuple:
        told += [list(thing), thing[1:], thing[:-1], thing + thing[:1], thing + (0,), thing[::-1], ()]
        for at in range(len(thing)):
            told += [thing[:at] + (part,) + thing[at + 1:] for part in turned(thing[at], words)]
    return told


def turned_at_chance(source, thing, words):
    """One thing that a thing may be turned into, the spot in it found by going down at chance."""
    if type(thing) is tuple and thing and source.randrange(5):
        at = source.randrange(len(thing))
        return thing[:at] + (turned_at_chance(source, thing[at], words),) + thing[at + 1:]
    if type(thing) is tuple:
        return source.choice([list(thing), thing[1:], thing[:-1], thing + (0,), thing[::-1], (), None, nested(30)])
    return source.choice(turned(thing, words))


def all_deeds(n):
    return ([("put", some) for some in subsets(n)] + [("without", place) for place in range(n)]
            + [("keep", place) for place in range(n)])


def became(family, deed):
    n, members = family
    word, what = deed
    if word == "put":
        return as_family(n, masks_of(family) + [bits(what)])
    if word == "without":
        return as_family(n, [mask for mask in masks_of(family) if not mask >> what & 1])
    return as_family(n, [mask & ~(1 << what) for mask in masks_of(family)])


def is_index(thing, members):
    return type(thing) is int and 0 <= thing < len(members)


def is_index_row(thing, many, members):
    return type(thing) is tuple and len(thing) == many and all(is_index(number, members) for number in thing)


def word_of(thing):
    """A tuple's first thing and how many there are; None of all else."""
    return (thing[0], len(thing)) if type(thing) is tuple and thing and type(thing[0]) is str else None


def entry_fits(one, other, deed, own, entry):
    word = word_of(entry)
    if deed[0] == "keep":
        return word in [("stays", 1), ("goes", 1)]
    if deed[0] == "without":
        return (word == ("less", 1) or word == ("stays", 2) and is_index_row(entry[1], len(own), one[1])
                or word == ("goes", 2) and is_index(entry[1], other[1]))
    if word != ("grows", 2):
        return word == ("stays", 1)
    if type(entry[1]) is not tuple or len(entry[1]) != len(deed[1]):
        return False
    return all(word_of(row) == ("new", 2) and is_index_row(row[1], len(own), one[1])
               or word_of(row) == ("has", 2) and is_index(row[1], other[1]) for row in entry[1])


def entry_is_so(one, other, deed, own, entry):
    own = set(own)
    first = [set(member) for member in one[1]]
    second = [set(member) for member in other[1]]
    if deed[0] == "keep":
        return (deed[1] in own) is (entry[0] == "goes")
    if deed[0] == "without":
        place = deed[1]
        if entry[0] == "less":
            return place in own
        if entry[0] == "stays":
            return place not in own and all(place not in first[number] and first[number] & own == {needed}
                                            for needed, number in zip(sorted(own), entry[1]))
        return place not in own and place in second[entry[1]] and second[entry[1]] - {place} <= own
    if entry[0] == "stays":
        return bool(own & set(deed[1]))
    if own & set(deed[1]):
        return False
    for place, row in zip(deed[1], entry[1]):
        if row[0] == "new":
            if any(first[number] & (own | {place}) != {needed} for needed, number in zip(sorted(own), row[1])):
                return False
        elif place not in second[row[1]] or not second[row[1]] <= own | {place}:
            return False
    return True


def judged(one, other, deed, thing):
    """True, or the word and the number that NoSteps is due with."""
    if deed[0] == "put" and word_of(thing) == ("held", 2) and is_index(thing[1], one[1]):
        return True if set(one[1][thing[1]]) <= set(deed[1]) else ("wrong", -1)
    if type(thing) is not tuple or len(thing) != len(other[1]):
        return "shape", -1
    for number, entry in enumerate(thing):
        if not entry_fits(one, other, deed, other[1][number], entry):
            return "shape", number
        if not entry_is_so(one, other, deed, other[1][number], entry):
            return "wrong", number
    return True


def dual_judged(one, other, thing):
    """True, or the word and the number that NoPaper is due with for a DUAL paper."""
    first, second = masks_of(one), masks_of(other)
    for number, mask in enumerate(first):
        if not all(mask & low for low in second):
            return "apart", number
    return dual_walk(one[0], first, second, thing, (0, 0), 0)[0]


def dual_walk(n, first, second, part, masks, number):
    """What is due of a part and all in it, and the number behind them."""
    taken, out = masks
    if word_of(part) == ("one", 2) and is_index(part[1], first):
        return (True if first[part[1]] | taken == taken else ("within", number)), number + 1
    if word_of(part) == ("other", 2) and is_index(part[1], second):
        return (True if second[part[1]] | out == out else ("within", number)), number + 1
    if word_of(part) != ("split", 4) or not is_index(part[1], range(n)):
        return ("shape", number), number + 1
    bit = 1 << part[1]
    if (taken | out) & bit:
        return ("place", number), number + 1
    due, number = dual_walk(n, first, second, part[2], (taken | bit, out), number + 1)
    return dual_walk(n, first, second, part[3], (taken, out | bit), number) if due is True else (due, number)


def chance_dual(source, one, other, taken=0, out=0):
    """A DUAL tree for two that are each other's, with splits in any order and perhaps later ends than could be."""
    ends = [("one", k) for k, mask in enumerate(masks_of(one)) if mask | taken == taken]
    ends += [("other", k) for k, mask in enumerate(masks_of(other)) if mask | out == out]
    free = [place for place in range(one[0]) if not (taken | out) >> place & 1]
    if ends and (not free or source.randrange(4)):
        return source.choice(ends)
    place = source.choice(free)
    return ("split", place, chance_dual(source, one, other, taken | 1 << place, out),
            chance_dual(source, one, other, taken, out | 1 << place))


def parts_two(one, other, mask):
    every = (1 << one[0]) - 1
    return holds(one, mask) is holds(other, every & ~mask)


def price(weights, mask):
    return sum(weight for place, weight in enumerate(weights) if mask >> place & 1)


def least_price(family, weights):
    """The least cost of a MEETER, None of WHOLE."""
    return min((price(weights, mask) for mask in range(1 << family[0]) if meets_all(family, mask)), default=None)


def chance_weights(source, n, most=99):
    return tuple(source.choice([0, 1, 1, 2, 3, most, source.randrange(most + 1)]) for place in range(n))


def cases_judged(family, weights, bound, thing):
    """True, or the word and the number that NoPaper is due with for CASES."""
    return cases_walk(family, weights, bound, thing, (0, 0), 0)[0]


def cases_walk(family, weights, bound, part, masks, number):
    """What is due of a part and all in it, and the number behind them."""
    taken, out = masks
    if word_of(part) == ("enough", 1):
        return (True if price(weights, taken) >= bound else ("cheap", number)), number + 1
    if word_of(part) != ("member", 3) or not is_index(part[1], family[1]) or type(part[2]) is not tuple:
        return ("shape", number), number + 1
    member = bits(family[1][part[1]])
    if member & taken:
        return ("met", number), number + 1
    free = places(member & ~out)
    if len(free) != len(part[2]):
        return ("rows", number), number + 1
    number += 1
    for place, row in zip(free, part[2]):
        due, number = cases_walk(family, weights, bound, row, (taken | 1 << place, out), number)
        if due is not True:
            return due, number
        out |= 1 << place
    return True, number


def chance_cases(source, family, weights, bound, taken=0, out=0):
    """CASES for a BOUND that no MEETER is cheaper than, with any members, and perhaps later ends than could be."""
    unmet = [k for k, mask in enumerate(masks_of(family)) if not mask & taken]
    if price(weights, taken) >= bound and (not unmet or source.randrange(3)):
        return ("enough",)
    number, rows = source.choice(unmet), []
    for place in places(bits(family[1][number]) & ~out):
        rows.append(chance_cases(source, family, weights, bound, taken | 1 << place, out))
        out |= 1 << place
    return "member", number, tuple(rows)


def entries_judged(family, rows):
    """None, or the number of the first thing that can't stand among the counts of a PACK."""
    last = None
    for number, entry in enumerate(rows):
        if type(entry) is not tuple or len(entry) != 2 or type(entry[1]) is not int or entry[1] < 1:
            return number
        member = entry[0]
        if type(member) is not tuple or any(type(place) is not int for place in member) or member not in family[1]:
            return number
        if last is not None and not last < member:
            return number
        last = member
    return None


def counts_judged(family, bounds, rows):
    """True, or the word and the number that NoPaper is due with for the counts of members."""
    number = entries_judged(family, rows)
    if number is not None:
        return "entry", number
    for place, bound in enumerate(bounds):
        if sum(count for member, count in rows if place in member) > bound:
            return "place", place
    return True


def pack_fits(family, weights, thing):
    return type(thing) is tuple and counts_judged(family, weights, thing) is True


def all_packs(family, weights, number=0):
    """All PACKs of members from this number on."""
    if number == len(family[1]):
        yield ()
        return
    member, count = family[1][number], 0
    while all(weights[place] >= 0 for place in member):
        for rest in all_packs(family, weights, number + 1):
            yield ((member, count),) + rest if count else rest
        count += 1
        weights = tuple(weight - (place in member) for place, weight in enumerate(weights))


def greatest_size(family, weights):
    """The greatest SIZE of a PACK, by counting each member not at all, or once more."""
    @lru_cache(maxsize=None)
    def greatest(number, left):
        if number == len(family[1]):
            return 0
        best = greatest(number + 1, left)
        member = family[1][number]
        if all(left[place] for place in member):
            fewer = tuple(weight - (place in member) for place, weight in enumerate(left))
            best = max(best, 1 + greatest(number, fewer))
        return best
    return greatest(0, weights)


def is_places(n, thing):
    return (type(thing) is tuple and all(type(place) is int and 0 <= place < n for place in thing)
            and list(thing) == sorted(set(thing)))


def pair_judged(family, weights, thing):
    """True, or the word and the number that NoPaper is due with for a PAIR."""
    if word_of(thing) != ("pair", 3) or not is_places(family[0], thing[1]) or type(thing[2]) is not tuple:
        return "shape", 0
    for number, mask in enumerate(masks_of(family)):
        if not mask & bits(thing[1]):
            return "member", number
    due = counts_judged(family, weights, thing[2])
    if due is not True:
        return due
    return True if sum(count for member, count in thing[2]) == price(weights, bits(thing[1])) else ("size", 0)


def shared_judged(family, weights, thing):
    """True, or the word and the number that NoPaper is due with for a SHARED paper."""
    if word_of(thing) != ("shared", 4) or type(thing[1]) is not int or thing[1] < 1 or type(thing[2]) is not tuple:
        return "shape", 0
    bottom, rows, covers = thing[1], thing[2], thing[3]
    if type(covers) is not tuple or len(covers) != family[0]:
        return "shape", 0
    if any(type(cover) is not int or cover < 0 for cover in covers):
        return "shape", 0
    due = counts_judged(family, [bottom * weight for weight in weights], rows)
    if due is not True:
        return due
    for number, member in enumerate(family[1]):
        if sum(covers[place] for place in member) < bottom:
            return "member", number
    total = sum(weight * cover for weight, cover in zip(weights, covers))
    return True if sum(count for member, count in rows) == total else ("number", 0)


def shared_made(source, family, weights):
    """A SHARED paper of a FAMILY that isn't WHOLE, any of several: shares are exchanged till none can grow."""
    n, members = family[0], list(family[1])
    source.shuffle(members)
    # Rows for the places, columns for the members, then for what is left at each place; the last row is what is gained.
    rows = [[Fraction(place in member) for member in members] + [Fraction(place == own) for own in range(n)]
            + [Fraction(weights[place])] for place in range(n)]
    gain = [Fraction(-1)] * len(members) + [Fraction(0)] * (n + 1)
    basis = [len(members) + place for place in range(n)]
    while any(worth < 0 for worth in gain[:-1]):
        column = next(at for at, worth in enumerate(gain[:-1]) if worth < 0)
        at = min((row for row in range(n) if rows[row][column] > 0),
                 key=lambda row: (rows[row][-1] / rows[row][column], basis[row]))
        rows[at] = [worth / rows[at][column] for worth in rows[at]]
        for row in [*(rows[:at] + rows[at + 1:]), gain]:
            row[:] = [worth - row[column] * own for worth, own in zip(row, rows[at])]
        basis[at] = column
    shares = {members[column]: rows[at][-1] for at, column in enumerate(basis) if column < len(members)}
    covers = gain[len(members):-1]
    bottom = lcm(*(worth.denominator for worth in [*shares.values(), *covers]))
    counts = tuple((member, int(shares[member] * bottom)) for member in family[1] if shares.get(member))
    return "shared", bottom, counts, tuple(int(cover * bottom) for cover in covers)


def scaled(paper, by):
    """A SHARED paper with all of its numbers so many times as great."""
    word, bottom, rows, covers = paper
    rows = tuple((member, count * by) for member, count in rows)
    return word, bottom * by, rows, tuple(cover * by for cover in covers)


def small_weights(source, n, most=12):
    """WEIGHTS that come to at most so much together."""
    weights = [0] * n
    for count in range(source.randrange(most + 1) if n else 0):
        weights[source.randrange(n)] += 1
    return tuple(weights)


def round_of(k):
    """The FAMILY of each place with the next one, the last one with the first."""
    return k, tuple(sorted(tuple(sorted((place, (place + 1) % k))) for place in range(k)))


PLANE = (7, ((0, 1, 2), (0, 3, 4), (0, 5, 6), (1, 3, 5), (1, 4, 6), (2, 3, 6), (2, 4, 5)))


def is_tie_of(many, tie):
    return (type(tie) is tuple and len(tie) == 2 and all(type(spot) is int for spot in tie)
            and 0 <= tie[0] < tie[1] < many)


def is_web_of(thing):
    if type(thing) is not tuple or len(thing) != 2 or type(thing[0]) is not int or not 1 <= thing[0] <= 6:
        return False
    ties = thing[1]
    return type(ties) is tuple and len(ties) <= 8 and all(is_tie_of(thing[0], tie) for tie in ties)


def ties_join(web, mask, a, b):
    """Whether one comes from a to b by the ties of the mask, spot by spot."""
    reached, waiting = {a}, [a]
    while waiting:
        spot = waiting.pop()
        for number, tie in enumerate(web[1]):
            if mask >> number & 1 and spot in tie:
                end = tie[0] + tie[1] - spot
                if end not in reached:
                    reached.add(end)
                    waiting.append(end)
    return b in reached


def ways_of(web, a, b):
    n = len(web[1])
    return as_family(n, [mask for mask in range(1 << n) if ties_join(web, mask, a, b)])


def cuts_of(web, a, b):
    n = len(web[1])
    every = (1 << n) - 1
    return as_family(n, [mask for mask in range(1 << n) if not ties_join(web, every & ~mask, a, b)])


def chance_web(source, ties=None):
    many = source.randrange(1, 7)
    if many == 1:
        return many, ()
    ties = source.randrange(9) if ties is None else ties
    return many, tuple(tuple(sorted(source.sample(range(many), 2))) for tie in range(ties))


def goes_round(parents, place):
    seen = set()
    while place != -1:
        if place in seen:
            return True
        seen.add(place)
        place = parents[place]
    return False


def is_row_up(parents, member):
    """Whether some order of the member's places has each but the last one's place above next to it."""
    return bool(member) and any(all(parents[low] == high for low, high in zip(row, row[1:]))
                                for row in permutations(member))


def unlike_judged(named, family):
    for number, member in enumerate(named[1]):
        if member not in family[1]:
            return "lacks", number
    for number, member in enumerate(family[1]):
        if member not in named[1]:
            return "more", number
    return True


def parts_judged(family, side):
    for number, member in enumerate(family[1]):
        if len(member) != 2:
            return "two", number
        if (member[0] in side) == (member[1] in side):
            return "side", number
    return True


def tree_judged(family, parents):
    for place in range(family[0]):
        if goes_round(parents, place):
            return "endless", place
    for number, member in enumerate(family[1]):
        if not is_row_up(parents, member):
            return "row", number
    return True


def look_fits(n, thing):
    word = word_of(thing)
    if word == ("parts", 2):
        return is_places(n, thing[1])
    if word == ("tree", 2):
        return (type(thing[1]) is tuple and len(thing[1]) == n
                and all(type(above) is int and -1 <= above < n for above in thing[1]))
    return (word in [("ways", 4), ("cuts", 4)] and is_web_of(thing[1])
            and all(is_index(spot, range(thing[1][0])) for spot in thing[2:]))


def look_judged(family, thing):
    """True, or the word and the number that NoPaper is due with for a LOOK."""
    n = family[0]
    if not look_fits(n, thing):
        return "shape", 0
    if family[1] == ((),):
        return "whole", 0
    if thing[0] == "parts":
        return parts_judged(family, thing[1])
    if thing[0] == "tree":
        return tree_judged(family, thing[1])
    if len(thing[1][1]) != n:
        return "ties", len(thing[1][1])
    return unlike_judged((ways_of if thing[0] == "ways" else cuts_of)(*thing[1:]), family)


def all_looks(n):
    """All things that are a LOOK of the sorts "parts" and "tree" by kind."""
    return [("parts", side) for side in subsets(n)] + [("tree", parents) for parents in product(range(-1, n), repeat=n)]


def unlike_families(n):
    """FAMILIES of n places (n at most 5), one of all that come from one another by other names of the places."""
    told, seen = [], set()
    for family in every_family(n):
        if family not in seen:
            told.append(family)
            for order in permutations(range(n)):
                seen.add(renamed(family, order))
    return told


def renamed(family, order):
    """The FAMILY with place k called by the k-th of the order."""
    return family[0], tuple(sorted(tuple(sorted(order[place] for place in member)) for member in family[1]))


BAD_WORDS = ("round", "covers", "fan", "four", "plane")


def named(word, k):
    """The FAMILY of k places that is NAMED so, None where there is none."""
    if word == "round" and k in (3, 5, 7):
        return round_of(k)
    if word == "covers" and k in (5, 7):
        return other_of(round_of(k))
    if word == "fan" and k in (4, 5, 6, 7, 8):
        return as_family(k, [(1 << k - 1) - 1] + [1 << place | 1 << k - 1 for place in range(k - 1)])
    if word == "four" and k == 6:
        return as_family(6, [0b010101, 0b101001, 0b100110, 0b011010])
    return PLANE if word == "plane" and k == 7 else None


def all_named():
    return [(word, k) for word in BAD_WORDS for k in range(10) if named(word, k)]


def price_and_pack(word, k):
    """What is due by weights of 1 each: the PRICE, and the SIZE of a greatest PACK."""
    if word == "round":
        return (k + 1) // 2, (k - 1) // 2
    return (3, 1) if word == "plane" else (2, 1)


def small_of(family, out, kept):
    gone, taken = bits(out), bits(kept)
    return as_family(family[0], [mask & ~taken for mask in masks_of(family) if not mask & gone])


def called_by_order(family, order):
    """The FAMILY whose place j is the j-th of the order, all places of members being there."""
    back = {place: number for number, place in enumerate(order)}
    return len(order), tuple(sorted(tuple(sorted(back[place] for place in member)) for member in family[1]))


def bad_judged(family, thing):
    """True, or the word and the number that NoPaper is due with for a BAD paper."""
    n = family[0]
    if type(thing) is not tuple or len(thing) != 4 or type(thing[2]) is not tuple or type(thing[3]) is not str:
        return "shape", 0
    out, kept, order, word = thing
    if not is_places(n, out) or not is_places(n, kept) or not all(is_index(place, range(n)) for place in order):
        return "shape", 0
    for place in range(n):
        if (out + kept + order).count(place) != 1:
            return "place", place
    due = named(word, len(order))
    if due is None:
        return "word", len(order)
    return unlike_judged(due, called_by_order(small_of(family, out, kept), order))


def splits_of(n):
    """All (out, kept, rest) of n places."""
    for states in product(range(3), repeat=n):
        yield tuple(tuple(place for place in range(n) if states[place] == state) for state in range(3))


@lru_cache(maxsize=None)
def named_anyhow(k):
    """All FAMILIES of k places that are NAMED ones with their places called anyhow."""
    return {renamed(named(word, k), order) for word in BAD_WORDS if named(word, k) for order in permutations(range(k))}


def some_bad(family):
    """Whether going through all ways to leave out and keep places finds a NAMED family."""
    return any(called_by_order(small_of(family, out, kept), rest) in named_anyhow(len(rest))
               for out, kept, rest in splits_of(family[0]) if len(rest) > 2)


def some_look(family):
    """Whether going through all sides and all parents finds a LOOK."""
    if family[1] == ((),):
        return False
    pairs = all(len(member) == 2 for member in family[1])
    for look in all_looks(family[0]):
        if (look[0] == "tree" or pairs) and look_judged(family, look) is True:
            return True
    return False


@lru_cache(maxsize=None)
def verdict_word(family):
    if some_bad(family):
        return "bad"
    return "look" if some_look(family) else "open"


def bad_made(source, word, k, n):
    """A FAMILY of n places and a BAD paper for it, by which it is the NAMED one: places are put in anyhow."""
    spots = source.sample(range(n), n)
    order, rest = tuple(spots[:k]), spots[k:]
    cut = source.randrange(len(rest) + 1)
    out, kept = tuple(sorted(rest[:cut])), tuple(sorted(rest[cut:]))
    masks = []
    for member in named(word, k)[1]:
        core = bits(order[place] for place in member)
        # With kept places anyhow; and more members with kept places that hold this one.
        masks.append(core | sum(1 << place for place in kept if source.randrange(2)))
        if source.randrange(3) == 0:
            masks.append(core | bits(kept) | 1 << source.choice(order))
    for place in out:
        masks += [1 << place | source.randrange(1 << n) for count in range(source.randrange(3))]
    # A member with a place of out is within none that has no such place: so none of these is lost by it.
    return as_family(n, masks), (out, kept, order, word)
