"""[5], [39]: what is told of two families."""

import random
import unittest

from rivalsets.dualchecker import does_part, lets_dual
from rivalsets.dualing import dual_told
from rivalsets.sets import is_set
from tests.reference import (as_family, bits, dual_judged, every_family, large_families, layer, masks_of, other_of,
                             parts_two, small_families)


class DualTold(unittest.TestCase):
    def check(self, one, other):
        told = dual_told(one, other)
        self.assertIs(type(told), tuple)
        self.assertEqual(len(told), 2)
        if other == other_of(one):
            self.assertEqual(told[0], "dual")
            self.assertIs(dual_judged(one, other, told[1]), True)
            self.assertIs(lets_dual(one, other, told[1]), True)
        else:
            self.assertEqual(told[0], "parted")
            self.assertIs(is_set(one[0], told[1]), True)
            self.assertIs(parts_two(one, other, bits(told[1])), True)
            self.assertIs(does_part(one, other, told[1]), True)

    def test_all_of_few_places(self):
        for n in range(4):
            for one in every_family(n):
                for other in every_family(n):
                    self.check(one, other)

    def test_each_others(self):
        for family in small_families() + large_families():
            self.check(family, other_of(family))
            self.check(other_of(family), family)

    def test_each_others_of_seventy_members(self):
        for size in range(1, 9):
            self.check(layer(8, size), layer(8, 9 - size))

    def test_void_and_whole(self):
        for n in range(9):
            void, whole = (n, ()), (n, ((),))
            for one in (void, whole):
                for other in (void, whole):
                    self.check(one, other)

    def test_nearly_each_others(self):
        """A member more, a member less, another one for one: in the one, or in the other."""
        source = random.Random(43)
        for family in source.sample(every_family(4), 60) + large_families():
            n, other = family[0], other_of(family)
            masks = masks_of(other)
            near = [as_family(n, masks + [source.randrange(1 << n)])]
            for mask in source.sample(masks, min(len(masks), 3)):
                rest = [low for low in masks if low != mask]
                near += [as_family(n, rest), as_family(n, rest + [source.randrange(1 << n)])]
                near += [as_family(n, rest + [mask | 1 << place]) for place in range(n)]
                near += [as_family(n, rest + [mask & ~(1 << place)]) for place in range(n)]
            for almost in near:
                self.check(family, almost)
                self.check(almost, family)

    def test_just_one_set_parts(self):
        # The OTHER of the one lacks (0, 1, 2) alone, or has it alone too much.
        self.assertEqual(dual_told((3, ()), (3, ((0,), (1,), (2,)))), ("parted", (0, 1, 2)))
        self.assertEqual(dual_told((3, ((),)), (3, ((0, 1, 2),))), ("parted", ()))
        self.check((3, ((0, 1, 2),)), (3, ((0,), (1,))))
