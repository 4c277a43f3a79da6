"""[77], [78]: BAD papers that are told, and the VERDICT."""

import random
import unittest

from rivalsets.badchecker import bad_weights, lets_bad
from rivalsets.badseeking import bad_told, verdict
from rivalsets.lookchecker import lets_look
from rivalsets.pairing import pair_told
from tests.reference import (bad_judged, bad_made, every_family, look_judged, named, renamed, round_of, some_bad,
                             unlike_families, verdict_word)


class BadTold(unittest.TestCase):
    def check(self, family):
        told = bad_told(family)
        if told is not None:
            self.assertIs(type(told), tuple)
            self.assertIs(bad_judged(family, told), True, (family, told))
            self.assertIs(lets_bad(family, told), True)
            self.assertEqual(pair_told(family, bad_weights(family, told))[0], "apart")
        return told

    def test_all_families_of_at_most_four_places(self):
        for n in range(5):
            for family in every_family(n):
                self.assertEqual(self.check(family) is not None, some_bad(family), family)

    def test_families_of_five_places(self):
        source = random.Random(171)
        for family in unlike_families(5):
            self.assertEqual(self.check(family) is not None, some_bad(family), family)
            order = source.sample(range(5), 5)
            self.assertEqual(self.check(renamed(family, order)) is None, self.check(family) is None)

    def test_named_ones(self):
        for word, k in [("round", 3), ("round", 5), ("covers", 5), ("fan", 4), ("fan", 5)]:
            self.assertEqual(self.check(named(word, k))[:2], ((), ()))
            self.assertEqual(self.check(named(word, k))[3], word)

    def test_made_ones(self):
        source = random.Random(172)
        for word, k in [("round", 3), ("round", 5), ("covers", 5), ("fan", 4), ("fan", 5)]:
            for n in range(k, 6):
                for count in range(8):
                    self.assertIsNotNone(self.check(bad_made(source, word, k, n)[0]))

    def test_void_and_whole(self):
        for n in range(6):
            self.assertIsNone(bad_told((n, ())))
            self.assertIsNone(bad_told((n, ((),))))


class Verdict(unittest.TestCase):
    def check(self, family):
        told = verdict(family)
        self.assertIs(type(told), tuple)
        word = told[0]
        self.assertEqual(word, verdict_word(family), family)
        if word == "bad":
            self.assertIs(bad_judged(family, told[1]), True)
            self.assertIs(lets_bad(family, told[1]), True)
        elif word == "look":
            self.assertIn(told[1][0], ("parts", "tree"))
            self.assertIs(look_judged(family, told[1]), True)
            self.assertIs(lets_look(family, told[1]), True)
        self.assertEqual(len(told), 1 if word == "open" else 2)
        return word

    def test_all_families_of_at_most_four_places(self):
        words = {self.check(family) for n in range(5) for family in every_family(n)}
        self.assertEqual(words, {"bad", "look", "open"})

    def test_families_of_five_places(self):
        words = [self.check(family) for family in unlike_families(5)]
        self.assertEqual(set(words), {"bad", "look", "open"})

    def test_void_and_whole(self):
        for n in range(6):
            self.assertEqual(verdict((n, ((),))), ("open",))
            self.assertEqual(self.check((n, ())), "look")

    def test_written_out(self):
        self.assertEqual(self.check(round_of(3)), "bad")
        self.assertEqual(self.check(round_of(4)), "look")
        self.assertEqual(self.check(round_of(5)), "bad")
        self.assertEqual(self.check((4, ((0, 1), (0, 2), (0, 3)))), "look")
        self.assertEqual(self.check((4, ((0, 1, 2), (0, 3), (1, 3), (2, 3)))), "bad")
        # Even by all weights, as ways between two spots are, but neither across two sides nor rows of a tree.
        bridge = (5, ((0, 2, 4), (0, 3), (1, 2, 3), (1, 4)))
        self.assertIs(lets_look(bridge, ("ways", (4, ((0, 1), (0, 2), (1, 2), (1, 3), (2, 3))), 0, 3)), True)
        self.assertEqual(self.check(bridge), "open")
        self.assertEqual(self.check((5, ((0, 2), (0, 3), (1, 2), (1, 3), (4,)))), "open")
