"""[5], [20], [21], [22]: left out, kept, narrowed."""

import unittest
from itertools import permutations

from rivalsets.families import does_hold, is_family
from rivalsets.minors import kept_at, narrowed, small_one, without_place
from rivalsets.others import other_family
from tests.reference import as_family, bits, every_family, large_families, masks_of, small_families, subsets

FAMILIES = small_families() + large_families()


def apart(n):
    """All pairs of SETs that share no place."""
    return [(out, kept) for out in subsets(n) for kept in subsets(n) if not set(out) & set(kept)]


def small_by_counting(family, out, kept):
    masks = [mask & ~bits(kept) for mask in masks_of(family) if not mask & bits(out)]
    return as_family(family[0], masks)


class OnePlace(unittest.TestCase):
    def test_by_counting(self):
        for family in FAMILIES:
            for place in range(family[0]):
                self.assertEqual(without_place(family, place), small_by_counting(family, (place,), ()))
                self.assertEqual(kept_at(family, place), small_by_counting(family, (), (place,)))

    def test_written_out(self):
        family = (4, ((0, 1), (0, 2), (1, 2, 3)))
        self.assertEqual(without_place(family, 0), (4, ((1, 2, 3),)))
        self.assertEqual(without_place(family, 3), (4, ((0, 1), (0, 2))))
        self.assertEqual(kept_at(family, 0), (4, ((1,), (2,))))
        self.assertEqual(kept_at(family, 3), (4, ((0, 1), (0, 2), (1, 2))))

    def test_void_and_whole_stay(self):
        for n in range(1, 9):
            for place in range(n):
                for family in [(n, ()), (n, ((),))]:
                    self.assertEqual(without_place(family, place), family)
                    self.assertEqual(kept_at(family, place), family)

    def test_a_member_that_is_the_one_place(self):
        self.assertEqual(kept_at((3, ((0, 2), (1,))), 1), (3, ((),)))
        self.assertEqual(without_place((3, ((0, 2), (1,))), 1), (3, ((0, 2),)))
        self.assertEqual(without_place((1, ((0,),)), 0), (1, ()))
        self.assertEqual(kept_at((1, ((0,),)), 0), (1, ((),)))

    def test_told_are_families_without_the_place(self):
        for family in FAMILIES:
            for place in range(family[0]):
                for told in (without_place(family, place), kept_at(family, place)):
                    self.assertIs(is_family(told), True)
                    self.assertEqual(told[0], family[0])
                    self.assertFalse(any(place in member for member in told[1]))

    def test_the_others(self):
        for family in FAMILIES:
            other = other_family(family)
            for place in range(family[0]):
                self.assertEqual(other_family(without_place(family, place)), kept_at(other, place))
                self.assertEqual(other_family(kept_at(family, place)), without_place(other, place))

    def test_what_holds(self):
        for family in small_families():
            for place in range(family[0]):
                for some in subsets(family[0]):
                    asked = kept_at(family, place) if place in some else without_place(family, place)
                    self.assertIs(does_hold(family, some), does_hold(asked, some))


class SmallOne(unittest.TestCase):
    def test_by_counting(self):
        for family in small_families():
            for out, kept in apart(family[0]):
                self.assertEqual(small_one(family, out, kept), small_by_counting(family, out, kept))
        for family in large_families():
            for out, kept in apart(family[0])[::37]:
                self.assertEqual(small_one(family, out, kept), small_by_counting(family, out, kept))

    def test_by_none_it_is_the_family(self):
        for family in FAMILIES:
            self.assertEqual(small_one(family, (), ()), family)

    def test_by_all_places(self):
        for family in FAMILIES:
            n = family[0]
            self.assertEqual(small_one(family, (), tuple(range(n))), (n, ((),)) if family[1] else (n, ()))
            self.assertEqual(small_one(family, tuple(range(n)), ()), (n, ((),)) if family[1] == ((),) else (n, ()))

    def test_whatever_order(self):
        for family in every_family(4):
            for out, kept in [((0, 2), (1, 3)), ((1,), (0, 2)), ((0, 3), (2,))]:
                deeds = [(without_place, place) for place in out] + [(kept_at, place) for place in kept]
                for turned in permutations(deeds):
                    told = family
                    for deed, place in turned:
                        told = deed(told, place)
                    self.assertEqual(told, small_one(family, out, kept))

    def test_the_others(self):
        for family in small_families():
            for out, kept in apart(family[0]):
                self.assertEqual(other_family(small_one(family, out, kept)),
                                 small_one(other_family(family), kept, out))

    def test_small_ones_of_small_ones(self):
        for family in every_family(4):
            for first, second, third, fourth in permutations(range(4)):
                once = small_one(family, (first,), (second,))
                self.assertEqual(small_one(once, (third,), (fourth,)),
                                 small_one(family, tuple(sorted((first, third))), tuple(sorted((second, fourth)))))


class Narrowed(unittest.TestCase):
    def test_by_counting(self):
        for family in FAMILIES:
            for some in subsets(family[0]):
                called = {place: number for number, place in enumerate(some)}
                within = [member for member in family[1] if set(member) <= set(some)]
                masks = [bits(called[place] for place in member) for member in within]
                told = narrowed(family, some)
                self.assertEqual(told, as_family(len(some), masks))
                self.assertEqual(len(told[1]), len(within))
                self.assertIs(is_family(told), True)

    def test_written_out(self):
        family = (5, ((0, 1), (1, 4), (2, 3), (3, 4)))
        self.assertEqual(narrowed(family, (1, 3, 4)), (3, ((0, 2), (1, 2))))
        self.assertEqual(narrowed(family, (0, 2)), (2, ()))

    def test_to_none_and_to_all(self):
        for family in FAMILIES:
            n = family[0]
            self.assertEqual(narrowed(family, ()), (0, ((),)) if family[1] == ((),) else (0, ()))
            self.assertEqual(narrowed(family, tuple(range(n))), family)

    def test_the_others(self):
        for family in FAMILIES:
            n, other = family[0], other_family(family)
            for some in subsets(n)[::1 if n < 5 else 11]:
                left = tuple(place for place in range(n) if place not in some)
                self.assertEqual(other_family(narrowed(family, some)), narrowed(small_one(other, (), left), some))
