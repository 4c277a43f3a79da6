"""[2], [5], [58] to [60]: the checker of SHARED papers, and what they show."""

import copy
import random
import unittest
from fractions import Fraction

from rivalsets.errors import NoPaper
from rivalsets.fractions import fraction_of, is_below
from rivalsets.pairing import pair_told
from rivalsets.sharechecker import lets_shared
from tests.reference import (PLANE, all_packs, bits, chance_weights, every_family, greatest_size, large_families, layer,
                             least_price, listed, nested, odd_things, price, round_of, said, scaled, shared_judged,
                             shared_made, small_families, small_weights, turned, turned_at_chance)

WORDS = ["shared", "pair", "Shared", ""]
ROUND = round_of(3)
EACH = (((0, 1), 1), ((0, 2), 1), ((1, 2), 1))
HALVES = ("shared", 2, EACH, (1, 1, 1))
FAN = (4, ((0, 1, 2), (0, 3), (1, 3), (2, 3)))
NO_WHOLE = [family for family in small_families() + large_families() if family[1] != ((),)]


def number_of_counts(paper):
    return fraction_of(sum(count for member, count in paper[2]), paper[1])


class LetsShared(unittest.TestCase):
    def check(self, family, weights, thing, due):
        self.assertEqual(shared_judged(family, weights, thing), due)
        self.check_same(family, weights, thing)

    def check_same(self, family, weights, thing):
        told = said(NoPaper, lets_shared, family, weights, thing)
        self.assertEqual(told, shared_judged(family, weights, thing), (family, weights, thing))

    def test_written_out(self):
        self.check(ROUND, (1, 1, 1), HALVES, True)
        for k in (5, 7):
            rows = tuple((member, 1) for member in round_of(k)[1])
            self.check(round_of(k), (1,) * k, ("shared", 2, rows, (1,) * k), True)
        self.check(PLANE, (1,) * 7, ("shared", 3, tuple((member, 1) for member in PLANE[1]), (1,) * 7), True)
        self.check((2, ((0, 1),)), (3, 5), ("shared", 1, (((0, 1), 3),), (1, 0)), True)
        self.check((2, ((0, 1),)), (3, 3), ("shared", 2, (((0, 1), 6),), (1, 1)), True)
        self.check((2, ((0, 1),)), (0, 3), ("shared", 1, (), (1, 0)), True)
        # Covers may be greater than need be where the weight is nought.
        self.check((2, ((0, 1),)), (0, 3), ("shared", 1, (), (10 ** 399, 0)), True)

    def test_counts_above_ninety_nine(self):
        rows = tuple((member, 99) for member in ROUND[1])
        self.check(ROUND, (99, 99, 99), ("shared", 2, rows, (1, 1, 1)), True)
        rows = tuple((member, 99 * 50) for member in ROUND[1])
        self.check(ROUND, (99, 99, 99), ("shared", 100, rows, (50, 50, 50)), True)
        self.check((1, ((0,),)), (99,), ("shared", 7, (((0,), 693),), (7,)), True)
        self.check((1, ((0,),)), (99,), ("shared", 7, (((0,), 694),), (7,)), ("place", 0))
        for by in (10, 10 ** 40, 10 ** 398):
            self.check(ROUND, (1, 1, 1), scaled(HALVES, by), True)
            self.check(ROUND, (1, 2, 1), scaled(HALVES, by), ("number", 0))

    def test_a_fan(self):
        # By thirds it is: (0, 1, 2) has 2, each two with 3 has 1; covers 1, 1, 1, 2.
        rows = (((0, 1, 2), 2), ((0, 3), 1), ((1, 3), 1), ((2, 3), 1))
        self.check(FAN, (1, 1, 1, 1), ("shared", 3, rows, (1, 1, 1, 2)), True)
        self.check(FAN, (1, 1, 1, 1), ("shared", 3, rows, (1, 1, 2, 1)), ("member", 1))
        rows = (((0, 1, 2), 3), ((0, 3), 1), ((1, 3), 2), ((2, 3), 2))
        self.check(FAN, (1, 1, 1, 1), ("shared", 5, rows, (2, 2, 2, 3)), ("number", 0))

    def test_void(self):
        for n in range(9):
            for bottom in (1, 2, 10 ** 399):
                self.check((n, ()), (3,) * n, ("shared", bottom, (), (0,) * n), True)
            self.check((n, ()), (0,) * n, ("shared", 1, (), (9,) * n), True)
            self.check((n, ()), (3,) * n, ("shared", 1, (((), 1),), (0,) * n), ("entry", 0))
            if n:
                self.check((n, ()), (3,) * n, ("shared", 1, (), (1,) + (0,) * (n - 1)), ("number", 0))
        self.check((0, ()), (), ("shared", 1, (), ()), True)

    def test_of_whole_nothing_is_let_by(self):
        for n in range(9):
            for bottom in (1, 2, 99):
                for rows in [(), (((), 1),), (((), 10 ** 30),)]:
                    for covers in [(0,) * n, (1,) * n, (99,) * n]:
                        self.check((n, ((),)), (1,) * n, ("shared", bottom, rows, covers), ("member", 0))

    def test_shape(self):
        for thing in [None, True, 1, "shared", (), [], ("shared",), HALVES[:3], HALVES + (0,), list(HALVES),
                      HALVES[::-1], ("Shared",) + HALVES[1:], (["shared"],) + HALVES[1:], (("shared",),) + HALVES[1:]]:
            self.check(ROUND, (1, 1, 1), thing, ("shape", 0))
        for bottom in [0, -1, -2, True, False, None, "2", (2,), [2], -10 ** 399]:
            self.check(ROUND, (1, 1, 1), ("shared", bottom, EACH, (1, 1, 1)), ("shape", 0))
        for rows in [None, list(EACH), "", 0, True]:
            self.check(ROUND, (1, 1, 1), ("shared", 2, rows, (1, 1, 1)), ("shape", 0))
        for covers in [None, 1, (), (1, 1), (1, 1, 1, 1), [1, 1, 1], (1, 1, -1), (-1, 3, 3), (1, True, 1),
                       (False, 2, 2), (1, None, 1), (1, "1", 1), (1, (1,), 1), (1, [1], 1), ((1, 1, 1),)]:
            self.check(ROUND, (1, 1, 1), ("shared", 2, EACH, covers), ("shape", 0))

    def test_entry(self):
        for entry in [None, (), [], ((0, 1),), ((0, 1), 1, 1), [(0, 1), 1], ([0, 1], 1), ((0, 1), 0), ((0, 1), -1),
                      ((0, 1), True), ((0, 1), False), ((0, 1), None), ((0, 1), "1"), ((0, 1), (1,)), ((False, 1), 1),
                      ((0, True), 1), ((1, 0), 1), ((0,), 1), ((), 1), (None, 1), (1, (0, 1)), ((0, 1, 2), 1)]:
            for at in range(3):
                rows = EACH[:at] + (entry,) + EACH[at + 1:]
                self.check(ROUND, (1, 1, 1), ("shared", 2, rows, (1, 1, 1)), ("entry", at))
        for rows, number in [(EACH[::-1], 1), (EACH[:1] * 2, 1), (EACH + EACH[:1], 3), (EACH + EACH[2:], 3),
                             ((EACH[0], EACH[2], EACH[1]), 2)]:
            self.check(ROUND, (1, 1, 1), ("shared", 2, rows, (1, 1, 1)), ("entry", number))

    def test_place(self):
        rows = (((0, 1), 1), ((0, 2), 2), ((1, 2), 3))
        for weights, place in [((1, 1, 1), 0), ((2, 1, 1), 1), ((2, 2, 1), 2), ((0, 9, 9), 0), ((9, 9, 0), 2)]:
            self.check(ROUND, weights, ("shared", 2, rows, (1, 1, 1)), ("place", place))
        self.check(ROUND, (2, 2, 3), ("shared", 2, rows, (1, 1, 1)), ("number", 0))
        # Just the bottom times the weight, and one above it.
        self.check((1, ((0,),)), (3,), ("shared", 4, (((0,), 12),), (4,)), True)
        self.check((1, ((0,),)), (3,), ("shared", 4, (((0,), 13),), (4,)), ("place", 0))

    def test_member(self):
        for covers, number in [((0, 0, 0), 0), ((1, 0, 1), 0), ((1, 1, 0), 1), ((0, 2, 1), 1), ((2, 0, 1), 2)]:
            self.check(ROUND, (1, 1, 1), ("shared", 2, EACH, covers), ("member", number))
        self.check(ROUND, (1, 1, 1), ("shared", 2, (), (0, 0, 0)), ("member", 0))

    def test_number(self):
        for covers in [(2, 1, 1), (1, 1, 2), (2, 0, 2), (2, 2, 0), (10 ** 399, 1, 1)]:
            self.check(ROUND, (1, 1, 1), ("shared", 2, EACH, covers), ("number", 0))
        for rows in [(), EACH[:1], EACH[:2], EACH[1:]]:
            self.check(ROUND, (1, 1, 1), ("shared", 2, rows, (1, 1, 1)), ("number", 0))
        self.check(ROUND, (1, 1, 2), HALVES, ("number", 0))
        self.check(ROUND, (0, 0, 0), ("shared", 2, (), (1, 1, 1)), True)

    def test_two_faults_the_first_one_goes(self):
        self.check(ROUND, (1, 1, 1), ("shared", 2, (None,), (1, 1)), ("shape", 0))
        self.check(ROUND, (1, 1, 1), ("shared", 2, (((0, 1), 9), None), (0, 0, 0)), ("entry", 1))
        self.check(ROUND, (1, 1, 1), ("shared", 2, (((0, 2), 9), ((0, 1), 9)), (0, 0, 0)), ("entry", 1))
        self.check(ROUND, (1, 1, 1), ("shared", 2, (((1, 2), 9),), (0, 0, 0)), ("place", 1))
        self.check(ROUND, (1, 1, 1), ("shared", 2, EACH[:1], (1, 1, 0)), ("member", 1))
        self.check(ROUND, (1, 1, 1), ("shared", 1, EACH, (1, 1, 1)), ("place", 0))
        self.check(ROUND, (1, 1, 1), ("shared", 3, EACH, (1, 1, 1)), ("member", 0))

    def test_any_thing(self):
        for family in [ROUND, (2, ()), (2, ((),)), (0, ()), (0, ((),)), layer(8, 4)]:
            weights = (1,) * family[0]
            covers = (1,) * family[0]
            for thing in odd_things() + [()]:
                for told in [thing, ("shared", thing, (), covers), ("shared", 2, thing, covers),
                             ("shared", 2, (), thing), (thing, 2, (), covers), ("shared", 2, (thing,), covers),
                             ("shared", 2, ((thing, 1),), covers), ("shared", 2, (((0, 1), thing),), covers),
                             ("shared", 1, (), covers[:-1] + (thing,))]:
                    self.check_same(family, weights, told)
            for thing in [nested(60), listed(60), ("shared", 1, ((nested(50), 1),), covers)]:
                self.check_same(family, weights, thing)

    def test_pairs_are_shared_by_ones(self):
        source = random.Random(70)
        for family in NO_WHOLE[::3]:
            weights = small_weights(source, family[0])
            word, meeter, pack = pair_told(family, weights)
            covers = tuple(int(place in meeter) for place in range(family[0]))
            self.check(family, weights, ("shared", 1, pack, covers), True if word == "pair" else ("number", 0))

    def test_made_ones(self):
        source = random.Random(71)
        for family in NO_WHOLE:
            for weights in [(1,) * family[0], chance_weights(source, family[0])]:
                paper = shared_made(source, family, weights)
                for by in (1, 2, 3, source.randrange(1, 10 ** 40)):
                    self.check(family, weights, scaled(paper, by), True)

    def test_each_spot_turned(self):
        source = random.Random(72)
        for family in NO_WHOLE[::4] + large_families():
            if family[1] == ((),):
                continue
            weights = chance_weights(source, family[0])
            paper = scaled(shared_made(source, family, weights), source.randrange(1, 4))
            things = turned(paper, WORDS)
            for thing in source.sample(things, min(len(things), 120)):
                self.check_same(family, weights, thing)
                self.check_same(family, weights, turned_at_chance(source, thing, WORDS) if thing else thing)
                self.check_same(family, chance_weights(source, family[0]), thing)

    def test_lists_handed_in_are_as_they_were(self):
        thing = ("shared", 2, (((0, 1), 1), [(0, 2), [1]]), (1, 1, 1))
        kept = copy.deepcopy(thing)
        self.check(ROUND, (1, 1, 1), thing, ("entry", 1))
        self.assertEqual(thing, kept)


class WhatTheyShow(unittest.TestCase):
    def test_all_of_one_family_and_weights_have_one_number(self):
        source = random.Random(73)
        for family in NO_WHOLE[::2] + large_families():
            if family[1] == ((),):
                continue
            weights = chance_weights(source, family[0], 6)
            papers = [shared_made(source, family, weights) for count in range(4)]
            for first, second in list(zip(papers, papers[1:])):
                # The shares of the one beside the covers of the other, by both bottoms multiplied.
                mixed = scaled(first, second[1])[:3] + scaled(second, first[1])[3:]
                self.assertIs(lets_shared(family, weights, mixed), True)
                papers.append(mixed)
            self.assertEqual(len({number_of_counts(paper) for paper in papers}), 1)

    def test_whoever_wrote_it(self):
        """Papers at chance: where one is let by its number is that of a made one."""
        source = random.Random(74)
        let = 0
        for count in range(6000):
            family = source.choice(every_family(source.randrange(4)))
            weights = small_weights(source, family[0], 4)
            bottom = source.choice([1, 2, 2])
            rows = tuple((member, source.randrange(1, 4)) for member in family[1] if source.randrange(3))
            covers = tuple(source.randrange(3) for place in range(family[0]))
            paper = ("shared", bottom, rows, covers)
            if said(NoPaper, lets_shared, family, weights, paper) is True:
                self.assertEqual(number_of_counts(paper), number_of_counts(shared_made(source, family, weights)))
                let += 1
        self.assertGreater(let, 50)

    def test_between_packs_and_meeters(self):
        source = random.Random(75)
        for family in NO_WHOLE:
            weights = small_weights(source, family[0])
            number = number_of_counts(shared_made(source, family, weights))
            self.assertIs(is_below(number, (greatest_size(family, weights), 1)), False)
            self.assertIs(is_below((least_price(family, weights), 1), number), False)

    def test_no_pack_is_greater_than_a_meeter_is_dear(self):
        source = random.Random(76)
        for family in source.sample([family for family in NO_WHOLE if family[0] == 4], 40):
            weights = small_weights(source, 4, 8)
            for pack in all_packs(family, weights):
                self.assertLessEqual(sum(count for member, count in pack), least_price(family, weights))

    def test_with_any_lengths(self):
        source = random.Random(77)
        for family in NO_WHOLE:
            if not family[1]:
                continue
            weights, lengths = chance_weights(source, family[0]), chance_weights(source, family[0])
            number = Fraction(*number_of_counts(shared_made(source, family, weights)))
            least = min(price(lengths, bits(member)) for member in family[1])
            self.assertLessEqual(least * number, sum(length * weight for length, weight in zip(lengths, weights)))
