"""[2], [5], [74] to [76]: the checker of BAD papers, and what they show."""

import copy
import random
import unittest
from itertools import permutations

from rivalsets.badchecker import bad_weights, lets_bad
from rivalsets.errors import NoPaper
from rivalsets.lookchecker import lets_look
from rivalsets.pairing import pair_told
from rivalsets.weights import is_weights
from tests.reference import (BAD_WORDS, PLANE, all_looks, all_named, bad_judged, bad_made, chance_web, cuts_of,
                             every_family, greatest_size, large_families, layer, least_price, listed, named, nested,
                             odd_things, price_and_pack, renamed, round_of, said, small_families,
                             splits_of, turned, turned_at_chance, ways_of)

WORDS = ["round", "covers", "fan", "four", "plane", "Round", ""]
# Of five places: 0 is left out, 3 is kept; 4, 1, 2 are a round of three.
FAMILY = (5, ((0, 1), (1, 2), (1, 4), (2, 3, 4)))
PAPER = ((0,), (3,), (4, 1, 2), "round")


class LetsBad(unittest.TestCase):
    def check(self, family, thing, due):
        self.assertEqual(bad_judged(family, thing), due, (family, thing))
        self.check_same(family, thing)

    def check_same(self, family, thing):
        self.assertEqual(said(NoPaper, lets_bad, family, thing), bad_judged(family, thing), (family, thing))

    def test_written_out(self):
        self.check(FAMILY, PAPER, True)
        self.check(round_of(3), ((), (), (0, 1, 2), "round"), True)
        for order in permutations(range(3)):
            self.check(round_of(3), ((), (), order, "round"), True)
        self.check((4, ((0, 1, 2), (0, 3), (1, 3), (2, 3))), ((), (), (2, 0, 1, 3), "fan"), True)
        self.check((4, ((0, 1, 2), (0, 3), (1, 3), (2, 3))), ((), (), (3, 0, 1, 2), "fan"), ("lacks", 0))
        # The fan of four, kept at its first place, has (1, 2) and (3,) alone.
        self.check((4, ((0, 1, 2), (0, 3), (1, 3), (2, 3))), ((), (0,), (1, 2, 3), "round"), ("lacks", 1))
        self.check(PLANE, ((), (), (0, 1, 2, 3, 4, 5, 6), "plane"), True)
        self.check(PLANE, ((), (), (0, 2, 1, 3, 4, 5, 6), "plane"), ("lacks", 3))

    def test_named_ones_themselves_in_any_order(self):
        source = random.Random(161)
        for word, k in all_named():
            family = named(word, k)
            self.check(family, ((), (), tuple(range(k)), word), True)
            for count in range(5):
                order = tuple(source.sample(range(k), k))
                self.check(renamed(family, order), ((), (), order, word), True)

    def test_made_of_named_ones(self):
        source = random.Random(162)
        for word, k in all_named():
            for n in range(k, 9):
                for count in range(6):
                    family, paper = bad_made(source, word, k, n)
                    self.check(family, paper, True)

    def test_shape(self):
        for thing in [None, True, 0, "round", (), [], PAPER[:3], PAPER + ((),), list(PAPER), PAPER[::-1], (PAPER,),
                      PAPER[1:] + PAPER[:1]]:
            self.check(FAMILY, thing, ("shape", 0))
        for some in [None, True, 0, "0", [], [0], (5,), (-1,), (1, 0), (0, 0), (True,), (False,), (None,), ((0,),),
                     ("0",), (10 ** 399,)]:
            self.check(FAMILY, (some,) + PAPER[1:], ("shape", 0))
            self.check(FAMILY, PAPER[:1] + (some,) + PAPER[2:], ("shape", 0))
        for order in [None, True, 4, "412", [4, 1, 2], (4, 1, 5), (4, 1, -1), (4, True, 2), (False, 1, 2), (4, None, 2),
                      (4, "1", 2), (4, (1,), 2), (4, [1], 2), (4, 1, 10 ** 399), ((4, 1, 2),)]:
            self.check(FAMILY, PAPER[:2] + (order,) + PAPER[3:], ("shape", 0))
        for word in [None, True, 0, 3, (), [], ("round",), ["round"]]:
            self.check(FAMILY, PAPER[:3] + (word,), ("shape", 0))

    def test_place(self):
        # Missing, twice in one, in two of the three.
        for thing, place in [(((), (3,), (4, 1, 2), "round"), 0), (((0,), (), (4, 1, 2), "round"), 3),
                             (((0,), (3,), (4, 1), "round"), 2), (((0,), (3,), (1, 2), "round"), 4),
                             (((0,), (3,), (), "round"), 1), (((), (), (), "round"), 0),
                             (((0,), (3,), (4, 1, 2, 4), "round"), 4), (((0,), (3,), (4, 1, 1), "round"), 1),
                             (((0,), (3,), (4, 1, 2, 1, 2), "round"), 1), (((0,), (0, 3), (4, 1, 2), "round"), 0),
                             (((0, 3), (3,), (4, 1, 2), "round"), 3), (((0, 2), (3,), (4, 1, 2), "round"), 2),
                             (((0,), (3, 4), (4, 1, 2), "round"), 4), (((1,), (0, 3), (4, 1, 2), "round"), 1),
                             (((0, 1, 2, 3, 4), (0, 1, 2, 3, 4), (0, 1, 2, 3, 4), "round"), 0),
                             (((0,), (3,), (4,) * 3000, "round"), 1)]:
            self.check(FAMILY, thing, ("place", place))

    def test_word(self):
        for word in ["", "fan", "covers", "four", "plane", "Round", "round ", "rounds", "x" * 200]:
            self.check(FAMILY, PAPER[:3] + (word,), ("word", 3))
        self.check(FAMILY, ((0, 1, 2, 3, 4), (), (), "round"), ("word", 0))
        self.check(FAMILY, ((), (), (0, 1, 2, 3, 4), "four"), ("word", 5))
        self.check(FAMILY, ((0,), (), (1, 2, 3, 4), "round"), ("word", 4))
        self.check((0, ()), ((), (), (), "round"), ("word", 0))
        self.check((0, ((),)), ((), (), (), ""), ("word", 0))

    def test_lacks(self):
        for number in range(5):
            family = (5, round_of(5)[1][:number] + round_of(5)[1][number + 1:])
            self.check(family, ((), (), (0, 1, 2, 3, 4), "round"), ("lacks", number))
        for n in range(3, 9):
            for word in BAD_WORDS:
                if named(word, n):
                    for family in [(n, ()), (n, ((),))]:
                        self.check(family, ((), (), tuple(range(n)), word), ("lacks", 0))
        self.check(FAMILY, ((3,), (0,), (4, 1, 2), "round"), ("lacks", 0))
        self.check(FAMILY, ((0, 3), (), (4, 1, 2), "round"), ("lacks", 1))

    def test_more(self):
        family = (5, tuple(sorted(round_of(5)[1] + ((1, 3),))))
        self.check(family, ((), (), (0, 1, 2, 3, 4), "round"), ("more", 3))
        # Called by the order, the members rising then: (1, 3) is (0, 2), behind (0, 1) and ahead of (0, 4).
        self.check(family, ((), (), (1, 2, 3, 4, 0), "round"), ("more", 1))
        self.check(family, ((), (), (3, 4, 0, 1, 2), "round"), ("more", 1))
        self.check(family, ((), (), (2, 3, 4, 0, 1), "round"), ("more", 3))
        family = (5, tuple(sorted(round_of(5)[1] + ((1, 3), (1, 4)))))
        self.check(family, ((), (), (0, 1, 2, 3, 4), "round"), ("more", 3))
        self.check(family, ((), (), (1, 2, 3, 4, 0), "round"), ("more", 1))
        family = (5, tuple(sorted(FAMILY[1] + ((2, 4),)))[:3] + ((2, 4),))
        self.check(family, PAPER, True)
        self.check((5, ((0, 1), (0, 2), (1, 2), (3, 4))), ((), (3,), (0, 1, 2, 4), "fan"), ("lacks", 0))
        self.check((4, ((0, 1), (0, 2), (1, 2), (3,))), ((3,), (), (0, 1, 2), "round"), True)
        self.check((4, ((0, 1), (0, 2), (1, 2), (3,))), ((), (3,), (0, 1, 2), "round"), ("lacks", 0))

    def test_two_faults_the_first_one_goes(self):
        self.check(FAMILY, ((0,), (0,), (4, 1, 2), None), ("shape", 0))
        self.check(FAMILY, ((0,), (3,), (4, 1, 9), "?"), ("shape", 0))
        self.check(FAMILY, ((0,), (3,), (4, 1, 1), "?"), ("place", 1))
        self.check(FAMILY, ((0,), (4,), (4, 1, 2), "?"), ("place", 3))
        self.check(FAMILY, ((3,), (0,), (4, 1, 2), "?"), ("word", 3))
        family = (5, ((0, 1), (0, 2), (1, 2), (2, 3), (3, 4)))
        self.check(family, ((), (), (0, 1, 2, 3, 4), "round"), ("lacks", 1))
        family = (5, ((0, 2), (0, 4), (1, 3)))
        self.check(family, ((), (), (0, 1, 2, 3, 4), "round"), ("lacks", 0))

    def test_small_families_and_all_splits(self):
        for n in range(4):
            for family in every_family(n):
                for out, kept, rest in splits_of(n):
                    for word in ("round", "fan"):
                        self.check_same(family, (out, kept, rest, word))
                        self.check_same(family, (out, kept, rest[::-1], word))

    def test_papers_at_chance(self):
        source = random.Random(163)
        for family in small_families()[::2] + large_families():
            n = family[0]
            for count in range(12):
                spots = source.sample(range(n), n)
                first, second = sorted([source.randrange(n // 2 + 1), source.randrange(n // 2 + 1)])
                thing = (tuple(sorted(spots[:first])), tuple(sorted(spots[first:second])), tuple(spots[second:]),
                         source.choice(BAD_WORDS))
                self.check_same(family, thing)

    def test_each_spot_turned(self):
        source = random.Random(164)
        told = [(FAMILY, PAPER)] + [bad_made(source, word, k, min(k + 2, 8)) for word, k in all_named()]
        for family, paper in told:
            things = turned(paper, WORDS)
            for thing in source.sample(things, min(len(things), 250)):
                self.check_same(family, thing)
                self.check_same(family, turned_at_chance(source, thing, WORDS) if thing else thing)

    def test_members_put_in_and_left_out(self):
        source = random.Random(165)
        for word, k in all_named():
            family, paper = bad_made(source, word, k, min(k + 1, 8))
            for count in range(10):
                order = source.sample(range(k), k)
                other = tuple(paper[2][place] for place in order)
                self.check_same(family, paper[:2] + (other, word))
            for number in range(len(family[1])):
                self.check_same((family[0], family[1][:number] + family[1][number + 1:]), paper)

    def test_any_thing(self):
        for family in [FAMILY, (2, ()), (2, ((),)), (0, ()), (0, ((),)), layer(8, 4)]:
            places = tuple(range(family[0]))
            for thing in odd_things() + [(), nested(60), listed(60)]:
                for told in [thing, (thing, (), places, "round"), ((), thing, places, "round"), ((), (), thing, "round"),
                             ((), (), places, thing), ((), (), places[1:] + (thing,), "round"),
                             ((thing,), (), places[1:], "fan")]:
                    self.check_same(family, told)

    def test_lists_handed_in_are_as_they_were(self):
        thing = ((0,), [3], (4, [1], 2), "round")
        kept = copy.deepcopy(thing)
        self.check(FAMILY, thing, ("shape", 0))
        self.assertEqual(thing, kept)


class BadWeights(unittest.TestCase):
    def check(self, family, paper):
        out, kept, order, word = paper
        weights = bad_weights(family, paper)
        price, size = price_and_pack(word, len(order))
        self.assertIs(is_weights(family[0], weights), True)
        self.assertEqual(weights, tuple(0 if place in out else price if place in kept else 1
                                        for place in range(family[0])))
        self.assertGreaterEqual(least_price(family, weights), price)
        self.assertLessEqual(greatest_size(family, weights), size)
        if sum(weights) <= 12:
            self.assertEqual(pair_told(family, weights)[0], "apart")

    def test_written_out(self):
        self.assertEqual(bad_weights(FAMILY, PAPER), (0, 1, 1, 2, 1))
        self.check(FAMILY, PAPER)
        paper = ((2,), (0,), (1, 3, 4, 5, 6, 7), "four")
        self.assertEqual(bad_weights(renamed((8, named("four", 6)[1]), (1, 3, 4, 5, 6, 7, 0, 2)), paper),
                         (2, 1, 0, 1, 1, 1, 1, 1))

    def test_named_ones_and_made_ones(self):
        source = random.Random(166)
        for word, k in all_named():
            for n in range(k, 9):
                for count in range(4):
                    self.check(*bad_made(source, word, k, n))


class NeverBoth(unittest.TestCase):
    def test_no_small_family_has_both(self):
        for n in (3, 4):
            for family in every_family(n):
                papers = [(out, kept, order, word) for out, kept, rest in splits_of(n) for word in ("round", "fan")
                          for order in permutations(rest) if len(rest) > 2]
                if any(said(NoPaper, lets_bad, family, paper) is True for paper in papers):
                    for look in all_looks(n):
                        self.assertIsNot(said(NoPaper, lets_look, family, look), True)

    def test_ways_and_cuts_have_no_bad_paper(self):
        source = random.Random(167)
        for count in range(60):
            web = chance_web(source, source.randrange(3, 6))
            a, b, n = source.randrange(web[0]), source.randrange(web[0]), len(web[1])
            for family in [ways_of(web, a, b), cuts_of(web, a, b)]:
                for out, kept, rest in splits_of(n):
                    for word in ("round", "covers", "fan"):
                        if named(word, len(rest)):
                            order = tuple(source.sample(rest, len(rest)))
                            self.assertIsNot(said(NoPaper, lets_bad, family, (out, kept, order, word)), True)

    def test_made_ones_have_no_look(self):
        source = random.Random(168)
        for word, k in all_named():
            family, paper = bad_made(source, word, k, min(k + 1, 8))
            n = family[0]
            for count in range(60):
                side = tuple(place for place in range(n) if source.randrange(2))
                parents = tuple(source.choice([-1, *range(place + 1, n)]) for place in range(n))
                for look in [("parts", side), ("tree", parents)]:
                    self.assertIsNot(said(NoPaper, lets_look, family, look), True)
