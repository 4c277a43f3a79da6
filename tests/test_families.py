"""[2], [3], [11], [12]: FAMILIES."""

import random
import unittest
from itertools import permutations, product

from rivalsets.families import does_hold, is_family, least_ones, void_family, whole_family
from tests.reference import (as_family, bits, every_family, holds, large_families, layer, nested, odd_things,
                             small_families, subsets)


class IsFamily(unittest.TestCase):
    def test_just_the_families_of_few_places(self):
        for n in range(4):
            families = set(every_family(n))
            for many in range(4):
                for members in product(subsets(n) + [(n,)], repeat=many):
                    self.assertIs(is_family((n, members)), (n, members) in families, (n, members))

    def test_all_families_of_four_places_and_larger_ones(self):
        for family in every_family(4) + large_families():
            self.assertIs(is_family(family), True)
            self.assertIs(is_family([family[0], family[1]]), False)
            self.assertIs(is_family((family[0], list(family[1]))), False)
            self.assertIs(is_family(family + ((),)), False)

    def test_seventy_members(self):
        n, members = layer(8, 4)
        self.assertEqual(len(members), 70)
        self.assertIs(is_family((n, members)), True)
        self.assertIs(is_family((n, members[::-1])), False)
        self.assertIs(is_family((n, members[:69])), True)
        self.assertIs(is_family((n, members[1:] + members[:1])), False)
        self.assertIs(is_family((n, tuple(sorted(members + ((0, 1, 2, 3, 4),))))), False)
        self.assertIs(is_family((n, tuple(sorted(members + ((5, 6, 7),))))), False)
        self.assertIs(is_family((7, members)), False)

    def test_within_another_that_is_not_beside_it(self):
        self.assertIs(is_family((4, ((0, 1, 2), (0, 2), (0, 3)))), False)
        self.assertIs(is_family((4, ((0, 1), (0, 2), (0, 1, 3)))), False)
        self.assertIs(is_family((4, ((0, 1), (0, 2), (1,)))), False)
        self.assertIs(is_family((4, ((0, 1, 3), (0, 2), (3,)))), False)
        self.assertIs(is_family((4, ((0,), (0, 1), (2,)))), False)
        self.assertIs(is_family((2, ((), (0,)))), False)

    def test_the_same_member_twice(self):
        self.assertIs(is_family((3, ((0, 1), (0, 1)))), False)
        self.assertIs(is_family((3, ((), ()))), False)

    def test_counts_of_places(self):
        for n in range(-2, 11):
            self.assertIs(is_family((n, ())), 0 <= n <= 8)
            self.assertIs(is_family((n, ((),))), 0 <= n <= 8)
        self.assertIs(is_family((10 ** 399, ())), False)

    def test_truths_are_no_numbers(self):
        for thing in [(True, ()), (False, ()), (True, ((),)), (True, ((0,),)), (2, ((True,),)), (2, ((False,), (1,))),
                      (2, ((0,), (True,))), (1, ((False,),))]:
            self.assertIs(is_family(thing), False, thing)

    def test_any_other_thing(self):
        for thing in odd_things():
            self.assertIs(is_family(thing), False, thing)
            self.assertIs(is_family((3, thing)), thing == () and type(thing) is tuple, thing)
            self.assertIs(is_family((3, (thing,))), False, thing)
            self.assertIs(is_family((thing, ())), type(thing) is int and 0 <= thing <= 8, thing)
        for thing in [(), (3,), (3, (), ()), (None, ()), ("3", ()), (3, ((0,), [1])), (3, ((0,), None)),
                      (3, ((0,), 1)), (3, "-"), (3, (nested(37),))]:
            self.assertIs(is_family(thing), False, thing)


class VoidAndWhole(unittest.TestCase):
    def test_each_count_of_places(self):
        for n in range(9):
            self.assertEqual(void_family(n), (n, ()))
            self.assertEqual(whole_family(n), (n, ((),)))
            self.assertIs(is_family(void_family(n)), True)
            self.assertIs(is_family(whole_family(n)), True)


class LeastOnes(unittest.TestCase):
    def test_of_none(self):
        for n in range(9):
            self.assertEqual(least_ones(n, []), (n, ()))

    def test_with_the_empty_one(self):
        for n in range(9):
            self.assertEqual(least_ones(n, [()]), (n, ((),)))
            self.assertEqual(least_ones(n, subsets(n)), (n, ((),)))
            self.assertEqual(least_ones(n, subsets(n)[::-1]), (n, ((),)))

    def test_any_order_and_several_times(self):
        sets = [(0, 1), (2,), (0, 1, 3), (1, 2), (0, 3)]
        for turned in permutations(sets):
            self.assertEqual(least_ones(4, list(turned)), (4, ((0, 1), (0, 3), (2,))))
            self.assertEqual(least_ones(4, list(turned) * 3), (4, ((0, 1), (0, 3), (2,))))

    def test_three_hundred(self):
        source = random.Random(3)
        for lowest in range(9):
            sets = [some for some in subsets(8) if len(some) >= lowest]
            many = [source.choice(sets) for count in range(300)]
            self.assertEqual(least_ones(8, many), as_family(8, [bits(some) for some in many]))
        self.assertEqual(least_ones(8, list(layer(8, 4)[1]) * 4), layer(8, 4))

    def test_by_counting(self):
        source = random.Random(4)
        for n in range(9):
            for many in (1, 2, 5, 20):
                sets = [source.choice(subsets(n)) for count in range(many)]
                told = least_ones(n, sets)
                self.assertEqual(told, as_family(n, [bits(some) for some in sets]))
                self.assertIs(is_family(told), True)

    def test_the_list_is_not_changed(self):
        sets = [(1, 2), (0,), (1, 2), (2,)]
        least_ones(3, sets)
        self.assertEqual(sets, [(1, 2), (0,), (1, 2), (2,)])

    def test_of_a_family_it_is_the_family(self):
        for family in small_families() + large_families():
            self.assertEqual(least_ones(family[0], list(family[1])), family)


class DoesHold(unittest.TestCase):
    def test_by_counting(self):
        for family in small_families() + large_families():
            for some in subsets(family[0]):
                self.assertIs(does_hold(family, some), holds(family, bits(some)), (family, some))

    def test_void_and_whole(self):
        for n in range(9):
            for some in subsets(n):
                self.assertIs(does_hold((n, ()), some), False)
                self.assertIs(does_hold((n, ((),)), some), True)

    def test_families_are_one_where_the_same_sets_hold(self):
        for n in range(5):
            seen = {tuple(does_hold(family, some) for some in subsets(n)) for family in every_family(n)}
            self.assertEqual(len(seen), len(every_family(n)))
