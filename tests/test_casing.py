"""[5], [47]: what is told of a BOUND."""

import random
import unittest

from rivalsets.casechecker import lets_cases
from rivalsets.casing import cases_for
from tests.reference import (bits, cases_judged, chance_weights, large_families, layer, least_price, meets_all, price,
                             small_families, subsets)


class CasesFor(unittest.TestCase):
    def check(self, family, weights, bound):
        least = least_price(family, weights)
        told = cases_for(family, weights, bound)
        self.assertIs(type(told), tuple)
        self.assertEqual(len(told), 2)
        if least is None or least >= bound:
            self.assertEqual(told[0], "cases", (family, weights, bound))
            self.assertIs(cases_judged(family, weights, bound, told[1]), True)
            self.assertIs(lets_cases(family, weights, bound, told[1]), True)
        else:
            self.assertEqual(told[0], "cheaper", (family, weights, bound))
            self.assertIs(type(told[1]), tuple)
            self.assertIn(told[1], subsets(family[0]))
            self.assertIs(meets_all(family, bits(told[1])), True)
            self.assertLess(price(weights, bits(told[1])), bound)

    def test_around_the_least_cost(self):
        source = random.Random(54)
        for family in small_families() + large_families():
            n = family[0]
            for weights in [(1,) * n, (0,) * n, chance_weights(source, n), chance_weights(source, n, 4)]:
                least = least_price(family, weights) or 0
                for bound in [least, max(least - 1, 0), least + 1, 0, 800]:
                    self.check(family, weights, bound)

    def test_void_and_whole(self):
        for n in range(9):
            for weights in [(0,) * n, (99,) * n]:
                for bound in (0, 1, 800):
                    self.check((n, ()), weights, bound)
                    self.check((n, ((),)), weights, bound)
        self.assertEqual(cases_for((3, ((),)), (1, 1, 1), 800), ("cases", ("member", 0, ())))

    def test_many_members(self):
        source = random.Random(55)
        for size in range(1, 9):
            for weights in [(1,) * 8, (99,) * 8, chance_weights(source, 8)]:
                least = least_price(layer(8, size), weights)
                for bound in (max(least - 1, 0), least, least + 1):
                    self.check(layer(8, size), weights, bound)
