"""[3], [5], [16] to [19]: meeters and the OTHER family."""

import unittest

from rivalsets.families import does_hold, is_family
from rivalsets.others import fewest, is_meeter, least_within, other_family, shortest
from tests.reference import bits, large_families, layer, meets_all, other_of, small_families, subsets

FAMILIES = small_families() + large_families()


class Meeters(unittest.TestCase):
    def test_by_counting(self):
        for family in FAMILIES:
            for some in subsets(family[0]):
                self.assertIs(is_meeter(family, some), meets_all(family, bits(some)), (family, some))

    def test_of_void_each_of_whole_none(self):
        for n in range(9):
            for some in subsets(n):
                self.assertIs(is_meeter((n, ()), some), True)
                self.assertIs(is_meeter((n, ((),)), some), False)

    def test_least_within(self):
        for family in FAMILIES:
            least = set(other_of(family)[1])
            for some in subsets(family[0]):
                told = least_within(family, some)
                if not meets_all(family, bits(some)):
                    self.assertIsNone(told)
                else:
                    self.assertIs(type(told), tuple)
                    self.assertIn(told, least)
                    self.assertLessEqual(set(told), set(some))

    def test_least_within_of_void_and_whole(self):
        for n in range(9):
            for some in subsets(n):
                self.assertEqual(least_within((n, ()), some), ())
                self.assertIsNone(least_within((n, ((),)), some))

    def test_least_within_written_out(self):
        self.assertEqual(least_within((3, ((0, 1), (1, 2))), (0, 2)), (0, 2))
        self.assertIn(least_within((3, ((0, 1), (1, 2))), (0, 1, 2)), [(1,), (0, 2)])
        self.assertIsNone(least_within((3, ((0, 1), (1, 2))), (0,)))


class OtherFamily(unittest.TestCase):
    def test_by_counting(self):
        for family in FAMILIES:
            told = other_family(family)
            self.assertEqual(told, other_of(family))
            self.assertIs(is_family(told), True)

    def test_void_and_whole(self):
        for n in range(9):
            self.assertEqual(other_family((n, ())), (n, ((),)))
            self.assertEqual(other_family((n, ((),))), (n, ()))

    def test_written_out(self):
        self.assertEqual(other_family((3, ((0, 1), (1, 2)))), (3, ((0, 2), (1,))))
        self.assertEqual(other_family((4, ((0, 1), (2, 3)))), (4, ((0, 2), (0, 3), (1, 2), (1, 3))))
        self.assertEqual(other_family((3, ((0, 1), (0, 2), (1, 2)))), (3, ((0, 1), (0, 2), (1, 2))))
        self.assertEqual(other_family((3, ((0, 1, 2),))), (3, ((0,), (1,), (2,))))

    def test_seventy_members(self):
        self.assertEqual(other_family(layer(8, 4)), layer(8, 5))
        self.assertEqual(other_family(layer(8, 5)), layer(8, 4))
        self.assertEqual(other_family(layer(8, 1)), layer(8, 8))
        self.assertEqual(other_family(layer(8, 8)), layer(8, 1))

    def test_the_others_other_is_the_first(self):
        for family in FAMILIES:
            self.assertEqual(other_family(other_family(family)), family)

    def test_of_a_set_and_what_it_leaves_one_holds(self):
        for family in FAMILIES:
            n, other = family[0], other_family(family)
            for some in subsets(n):
                left = tuple(place for place in range(n) if place not in some)
                self.assertIs(does_hold(family, some), is_meeter(other, some))
                self.assertIsNot(does_hold(family, some), does_hold(other, left))

    def test_each_place_is_there_for_some_member(self):
        for family in FAMILIES:
            other = other_family(family)
            for one, two in [(family, other), (other, family)]:
                for some in two[1]:
                    for place in some:
                        self.assertTrue(any(set(member) & set(some) == {place} for member in one[1]))

    def test_a_place_in_no_member_is_in_none_of_the_other(self):
        for family in FAMILIES:
            used = {place for member in family[1] for place in member}
            self.assertEqual({place for member in other_family(family)[1] for place in member}, used)


class ShortestAndFewest(unittest.TestCase):
    def test_by_counting(self):
        for family in FAMILIES:
            self.assertEqual(shortest(family), min((len(member) for member in family[1]), default=None))
            meeters = [len(some) for some in subsets(family[0]) if meets_all(family, bits(some))]
            self.assertEqual(fewest(family), min(meeters, default=None))

    def test_fewest_is_the_shortest_of_the_other(self):
        for family in FAMILIES:
            self.assertEqual(fewest(family), shortest(other_family(family)))

    def test_void_and_whole(self):
        for n in range(9):
            self.assertIsNone(shortest((n, ())))
            self.assertIsNone(fewest((n, ((),))))
            for told in (shortest((n, ((),))), fewest((n, ()))):
                self.assertEqual(told, 0)
                self.assertIs(type(told), int)

    def test_written_out(self):
        self.assertEqual(shortest((4, ((0, 1, 2), (0, 3)))), 2)
        self.assertEqual(fewest((4, ((0, 1, 2), (0, 3)))), 1)
        self.assertEqual(fewest(layer(8, 4)), 5)
