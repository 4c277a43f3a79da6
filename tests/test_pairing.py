"""[5], [55]: what is told of a FAMILY and WEIGHTS."""

import random
import unittest

from rivalsets.pairchecker import lets_pair
from rivalsets.pairing import pair_told
from tests.reference import (bits, greatest_size, large_families, layer, least_price, meets_all, pack_fits, pair_judged,
                             price, round_of, small_families, small_weights, subsets)


class PairTold(unittest.TestCase):
    def check(self, family, weights):
        told = pair_told(family, weights)
        least = least_price(family, weights)
        if least is None:
            self.assertIsNone(told)
            return None
        most = greatest_size(family, weights)
        self.assertIs(type(told), tuple)
        word, meeter, pack = told
        self.assertEqual(word, "pair" if least == most else "apart", (family, weights))
        if word == "pair":
            self.assertIs(pair_judged(family, weights, told), True)
            self.assertIs(lets_pair(family, weights, told), True)
        self.assertIn(meeter, subsets(family[0]))
        self.assertIs(meets_all(family, bits(meeter)), True)
        self.assertEqual(price(weights, bits(meeter)), least)
        self.assertIs(pack_fits(family, weights, pack), True)
        self.assertEqual(sum(count for member, count in pack), most)
        return word

    def test_small_and_large_families(self):
        source = random.Random(68)
        words = []
        for family in small_families() + large_families():
            n = family[0]
            for weights in [(0,) * n, (1,) * n, small_weights(source, n), small_weights(source, n)]:
                words.append(self.check(family, weights))
        self.assertEqual({"pair", "apart", None}, set(words))

    def test_rounds(self):
        for k in (3, 5, 7):
            self.assertEqual(self.check(round_of(k), (1,) * k), "apart")
        self.assertEqual(self.check(round_of(3), (2, 2, 2)), "apart")
        self.assertEqual(self.check(round_of(5), (2, 2, 2, 2, 2)), "apart")
        self.assertEqual(self.check(round_of(3), (2, 1, 1)), "pair")
        self.assertEqual(self.check(round_of(3), (3, 3, 3)), "apart")
        self.assertEqual(self.check(round_of(3), (1, 1, 0)), "pair")
        self.assertEqual(self.check(round_of(4), (1, 1, 1, 1)), "pair")
        self.assertEqual(self.check(round_of(4), (3, 3, 3, 3)), "pair")

    def test_void_and_whole(self):
        for n in range(9):
            for weights in [(0,) * n, (1,) * n]:
                self.assertIsNone(pair_told((n, ((),)), weights))
                self.assertEqual(self.check((n, ()), weights), "pair")

    def test_many_members(self):
        for size in range(1, 9):
            word = self.check(layer(8, size), (1,) * 8)
            self.assertEqual(word, "pair" if size in (1, 8) else "apart")

    def test_written_out(self):
        self.assertEqual(pair_told((2, ((0, 1),)), (7, 5)), ("pair", (1,), (((0, 1), 5),)))
        self.assertEqual(pair_told((2, ((0,), (1,))), (1, 2)), ("pair", (0, 1), (((0,), 1), ((1,), 2))))
