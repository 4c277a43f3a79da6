"""[72], [73]: the NAMED families."""

import unittest

from rivalsets.bads import named_family, price_of
from rivalsets.families import is_family
from rivalsets.others import other_family
from rivalsets.pairing import pair_told
from tests.reference import (BAD_WORDS, all_named, greatest_size, least_price, named, other_of, price_and_pack,
                             round_of)

DUE = {"round": (3, 5, 7), "covers": (5, 7), "fan": (4, 5, 6, 7, 8), "four": (6,), "plane": (7,)}


class NamedFamily(unittest.TestCase):
    def test_each_k_and_those_beside(self):
        for word in BAD_WORDS:
            for k in range(-3, 14):
                told = named_family(word, k)
                self.assertEqual(told, named(word, k), (word, k))
                self.assertEqual(told is not None, k in DUE[word])
                if told is not None:
                    self.assertIs(is_family(told), True)
                    self.assertEqual(told[0], k)

    def test_any_whole_number(self):
        for word in BAD_WORDS + ("none", ""):
            for k in [-10 ** 399, -7, -1, 0, 1, 2, 9, 10, 11, 100, 10 ** 399, 2 ** 64 + 7, 2 ** 32 + 5]:
                self.assertIsNone(named_family(word, k))

    def test_any_text(self):
        for word in ["", " ", "Round", "round ", " round", "rounds", "roun", "cover", "FAN", "fan4", "4", "planes", "-",
                     "four,plane", "round covers", "x" * 200, "~", "\"", "open", "bad", "look"]:
            for k in range(10):
                self.assertIsNone(named_family(word, k))

    def test_written_out(self):
        self.assertEqual(named_family("round", 3), (3, ((0, 1), (0, 2), (1, 2))))
        self.assertEqual(named_family("round", 5), (5, ((0, 1), (0, 4), (1, 2), (2, 3), (3, 4))))
        self.assertEqual(named_family("round", 7), (7, ((0, 1), (0, 6), (1, 2), (2, 3), (3, 4), (4, 5), (5, 6))))
        self.assertEqual(named_family("covers", 5), (5, ((0, 1, 3), (0, 2, 3), (0, 2, 4), (1, 2, 4), (1, 3, 4))))
        self.assertEqual(named_family("covers", 7), other_of(round_of(7)))
        self.assertEqual(named_family("fan", 4), (4, ((0, 1, 2), (0, 3), (1, 3), (2, 3))))
        self.assertEqual(named_family("fan", 8), (8, ((0, 1, 2, 3, 4, 5, 6), (0, 7), (1, 7), (2, 7), (3, 7), (4, 7),
                                                      (5, 7), (6, 7))))
        self.assertEqual(named_family("four", 6), (6, ((0, 2, 4), (0, 3, 5), (1, 2, 5), (1, 3, 4))))
        self.assertEqual(named_family("plane", 7), (7, ((0, 1, 2), (0, 3, 4), (0, 5, 6), (1, 3, 5), (1, 4, 6),
                                                        (2, 3, 6), (2, 4, 5))))

    def test_some_are_their_own_other(self):
        for word, k in all_named():
            family = named_family(word, k)
            if word in ("fan", "plane") or (word, k) == ("round", 3):
                self.assertEqual(other_family(family), family)
            if word == "covers":
                self.assertEqual(other_family(family), named_family("round", k))


class PriceAndPack(unittest.TestCase):
    def test_by_going_through_all(self):
        for word, k in all_named():
            family, ones = named_family(word, k), (1,) * k
            price, size = price_and_pack(word, k)
            self.assertEqual(least_price(family, ones), price, (word, k))
            self.assertEqual(greatest_size(family, ones), size, (word, k))
            self.assertEqual(price_of(word, k), price)
            told = pair_told(family, ones)
            self.assertEqual((told[0], len(told[1]), sum(count for member, count in told[2])), ("apart", price, size))
