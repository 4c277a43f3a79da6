"""[2], [5], [60] to [62]: SHARED papers that are told, their NUMBER, WHOLE PART and CUT."""

import random
import unittest
from fractions import Fraction

from rivalsets.fractions import is_below
from rivalsets.sharechecker import lets_shared
from rivalsets.sharing import cut_of, halves_told, number_of, shared_told, whole_part
from tests.reference import (PLANE, all_packs, bits, chance_family, chance_weights, every_family, greatest_size,
                             large_families, layer, least_price, meets_all, pack_fits, price, round_of, scaled,
                             shared_judged, shared_made, small_families, small_weights, subsets)

NO_WHOLE = [family for family in small_families() + large_families() if family[1] != ((),)]


def numbers_in(thing):
    return [thing] if type(thing) is int else [number for part in thing for number in numbers_in(part)] \
        if type(thing) is tuple else []


def no_lists_in(thing):
    return all(no_lists_in(part) for part in thing) if type(thing) is tuple else type(thing) in (int, str)


def stretch_of(k):
    """Each place with the next one."""
    return k, tuple((place, place + 1) for place in range(k - 1))


def chance_pairs(source, n):
    """A FAMILY of members of one and two places."""
    ends = source.sample(range(n), source.randrange(n)) if source.randrange(2) else []
    pairs = [pair for pair in subsets(n) if len(pair) == 2 and not set(pair) & set(ends) and source.randrange(3)]
    return n, tuple(sorted([(place,) for place in ends] + pairs))


class SharedTold(unittest.TestCase):
    def check(self, family, weights):
        paper = shared_told(family, weights)
        self.assertIs(shared_judged(family, weights, paper), True, (family, weights, paper))
        self.assertIs(lets_shared(family, weights, paper), True)
        self.assertTrue(no_lists_in(paper))
        self.assertTrue(all(abs(number) < 10 ** 300 for number in numbers_in(paper)))
        return number_of(paper)

    def test_all_small_and_some_large_families(self):
        source = random.Random(111)
        for family in NO_WHOLE:
            n = family[0]
            for weights in [(0,) * n, (1,) * n, (99,) * n, chance_weights(source, n), chance_weights(source, n)]:
                self.check(family, weights)

    def test_of_zero_to_eight_places(self):
        source = random.Random(112)
        for n in range(9):
            for count in range(20):
                family = chance_family(source, n, 30) if n else (0, ())
                weights = tuple(source.randrange(100) for place in range(n))
                self.assertEqual(self.check(family, weights), number_of(shared_made(source, family, weights)))

    def test_many_members(self):
        source = random.Random(113)
        self.assertEqual(self.check(layer(8, 4), (1,) * 8), (2, 1))
        self.assertEqual(self.check(layer(8, 4), (99,) * 8), (198, 1))
        self.assertEqual(self.check(layer(8, 3), (1,) * 8), (8, 3))
        self.assertEqual(self.check(layer(8, 5), (1,) * 8), (8, 5))
        self.assertEqual(self.check(layer(7, 3), (1,) * 7), (7, 3))
        for size in range(1, 9):
            for count in range(6):
                weights = tuple(source.randrange(100) for place in range(8))
                self.assertEqual(self.check(layer(8, size), weights),
                                 number_of(shared_made(source, layer(8, size), weights)))

    def test_rounds_and_the_plane(self):
        for k in (3, 5, 7):
            self.assertEqual(self.check(round_of(k), (1,) * k), (k, 2))
            self.assertEqual(self.check(round_of(k), (99,) * k), (99 * k, 2))
            self.assertEqual(self.check(round_of(k), (2,) * k), (k, 1))
            self.assertEqual(self.check(round_of(k), (0,) * k), (0, 1))
            self.assertEqual(self.check(round_of(k), (0,) + (1,) * (k - 1)), ((k - 1) // 2, 1))
        for k in (4, 6, 8):
            self.assertEqual(self.check(round_of(k), (1,) * k), (k // 2, 1))
        self.assertEqual(self.check(PLANE, (1,) * 7), (7, 3))
        self.assertEqual(self.check(PLANE, (3,) * 7), (7, 1))
        self.assertEqual(self.check(PLANE, (99,) * 7), (231, 1))

    def test_written_out(self):
        self.assertEqual(self.check((4, ((0, 1, 2), (0, 3), (1, 3), (2, 3))), (1, 1, 1, 1)), (5, 3))
        self.assertEqual(self.check((6, ((0, 2, 4), (0, 3, 5), (1, 2, 5), (1, 3, 4))), (1,) * 6), (2, 1))
        self.assertEqual(self.check((1, ((0,),)), (99,)), (99, 1))
        self.assertEqual(self.check((2, ((0, 1),)), (99, 0)), (0, 1))

    def test_void_and_whole(self):
        for n in range(9):
            for weights in [(0,) * n, (1,) * n, (99,) * n]:
                self.assertEqual(self.check((n, ()), weights), (0, 1))
                self.assertIsNone(shared_told((n, ((),)), weights))

    def test_the_same_whatever_was_asked_before(self):
        source = random.Random(114)
        for family in NO_WHOLE[::7]:
            first, second = chance_weights(source, family[0]), chance_weights(source, family[0])
            one = number_of(shared_told(family, first))
            shared_told(family, second)
            self.assertEqual(number_of(shared_told(family, first)), one)


class HalvesTold(unittest.TestCase):
    def check(self, family, weights):
        paper = halves_told(family, weights)
        self.assertIs(shared_judged(family, weights, paper), True, (family, weights, paper))
        self.assertIs(lets_shared(family, weights, paper), True)
        self.assertEqual(paper[1], 2)
        self.assertTrue(no_lists_in(paper))
        return number_of(paper)

    def test_rounds_and_stretches(self):
        source = random.Random(115)
        for k in range(3, 9):
            self.assertEqual(self.check(round_of(k), (1,) * k), number_of(("shared", 2, (((0,), k),), ())))
            self.assertEqual(self.check(stretch_of(k), (1,) * k), (k // 2, 1))
            for count in range(20):
                self.check(round_of(k), chance_weights(source, k))
                self.check(stretch_of(k), chance_weights(source, k))

    def test_two_rounds_at_once(self):
        two = (6, round_of(3)[1] + tuple((a + 3, b + 3) for a, b in round_of(3)[1]))
        self.assertEqual(self.check(two, (1,) * 6), (3, 1))
        self.assertEqual(self.check(two, (1, 1, 1, 99, 99, 99)), (150, 1))
        tied = (6, tuple(sorted(two[1] + ((2, 3),))))
        self.assertEqual(self.check(tied, (1,) * 6), (3, 1))
        tied = (8, tuple(sorted(round_of(5)[1] + tuple((a + 5, b + 5) for a, b in round_of(3)[1]) + ((4, 5),))))
        self.assertEqual(self.check(tied, (1,) * 8), (4, 1))

    def test_members_of_one_place_and_of_none(self):
        self.assertEqual(self.check((3, ((0,), (1,), (2,))), (1, 0, 99)), (100, 1))
        self.assertEqual(self.check((3, ((0,), (1, 2))), (5, 7, 3)), (8, 1))
        for n in range(9):
            self.assertEqual(self.check((n, ()), (3,) * n), (0, 1))
            self.assertIsNone(halves_told((n, ((),)), (1,) * n))

    def test_families_of_pairs(self):
        source = random.Random(116)
        for n in range(1, 9):
            for count in range(60):
                family = chance_pairs(source, n)
                for weights in [(1,) * n, (99,) * n, chance_weights(source, n)]:
                    self.assertEqual(self.check(family, weights), number_of(shared_told(family, weights)))

    def test_none_where_a_member_has_three_places(self):
        source = random.Random(117)
        for family in small_families() + large_families():
            weights = chance_weights(source, family[0])
            if family[1] == ((),) or any(len(member) > 2 for member in family[1]):
                self.assertIsNone(halves_told(family, weights))
            else:
                self.check(family, weights)
        self.assertIsNone(halves_told((5, ((0, 1), (2, 3, 4))), (0,) * 5))
        self.assertIsNone(halves_told((8, (tuple(range(8)),)), (1,) * 8))


class WhatTheyShow(unittest.TestCase):
    def test_one_told_and_one_written_otherwise_have_one_number(self):
        source = random.Random(118)
        for family in NO_WHOLE:
            weights = chance_weights(source, family[0])
            told, made = shared_told(family, weights), shared_made(source, family, weights)
            self.assertEqual(number_of(told), number_of(made))
            self.assertEqual(number_of(told), number_of(scaled(made, source.randrange(1, 10 ** 30))))
            mixed = scaled(told, made[1])[:3] + scaled(made, told[1])[3:]
            self.assertIs(lets_shared(family, weights, mixed), True)
            self.assertEqual(number_of(mixed), number_of(told))

    def test_no_pack_is_greater_and_no_meeter_costs_less(self):
        source = random.Random(119)
        for family in NO_WHOLE:
            weights = small_weights(source, family[0])
            number = number_of(shared_told(family, weights))
            self.assertIs(is_below(number, (greatest_size(family, weights), 1)), False)
            self.assertIs(is_below((least_price(family, weights), 1), number), False)

    def test_each_pack_and_each_meeter(self):
        source = random.Random(120)
        for family in source.sample(every_family(4)[2:], 40):
            if family[1] == ((),):
                continue
            weights = small_weights(source, 4, 7)
            number = Fraction(*number_of(shared_told(family, weights)))
            for pack in all_packs(family, weights):
                self.assertLessEqual(sum(count for member, count in pack), number)
            for mask in range(16):
                if meets_all(family, mask):
                    self.assertGreaterEqual(price(weights, mask), number)

    def test_with_any_lengths(self):
        source = random.Random(121)
        for family in NO_WHOLE:
            if family[1]:
                weights, lengths = chance_weights(source, family[0]), chance_weights(source, family[0])
                number = Fraction(*number_of(shared_told(family, weights)))
                least = min(price(lengths, bits(member)) for member in family[1])
                self.assertLessEqual(least * number, sum(a * b for a, b in zip(lengths, weights)))


class NumberWholePartCut(unittest.TestCase):
    def check_paper(self, family, weights, paper):
        """All three of a paper that is let by."""
        self.assertIs(lets_shared(family, weights, paper), True)
        word, bottom, rows, covers = paper
        number = Fraction(sum(count for member, count in rows), bottom)
        self.assertEqual(number_of(paper), (number.numerator, number.denominator))
        self.assertTrue(no_lists_in(number_of(paper)))
        due = [(member, count // bottom) for member, count in rows]
        whole = whole_part(paper)
        self.assertEqual(whole, tuple(row for row in due if row[1] != 0))
        self.assertIs(pack_fits(family, weights, whole), True)
        most = max([0] + [len(member) for member in family[1]])
        cut = cut_of(family, paper)
        self.assertEqual(cut, tuple(place for place in range(family[0]) if covers[place] * most >= bottom))
        self.assertTrue(no_lists_in(whole) and no_lists_in(cut))
        if family[1]:
            self.assertIs(meets_all(family, bits(cut)), True)
            self.assertLessEqual(price(weights, bits(cut)), most * number)
        else:
            self.assertEqual(cut, ())

    def test_told_and_made_papers(self):
        source = random.Random(122)
        for family in NO_WHOLE:
            for weights in [(1,) * family[0], chance_weights(source, family[0])]:
                for paper in [shared_told(family, weights), shared_made(source, family, weights)]:
                    self.check_paper(family, weights, paper)
                    self.check_paper(family, weights, scaled(paper, source.randrange(1, 9)))
                    self.check_paper(family, weights, scaled(paper, 10 ** 396))

    def test_a_common_divisor(self):
        rows = (((0, 1), 1), ((0, 2), 1), ((1, 2), 1))
        halves = ("shared", 2, rows, (1, 1, 1))
        for by in (1, 2, 3, 6, 10 ** 399 // 7):
            self.assertEqual(number_of(scaled(halves, by)), (3, 2))
        self.assertEqual(number_of(("shared", 4, (((0,), 12),), (4,))), (3, 1))
        self.assertEqual(number_of(("shared", 6, (((0,), 4), ((1,), 5)), (6, 6))), (3, 2))
        for bottom in (1, 2, 7, 10 ** 399):
            self.assertEqual(number_of(("shared", bottom, (), (0, 0))), (0, 1))

    def test_counts_below_at_and_above_bottom(self):
        rows = (((0,), 4), ((1,), 5), ((2,), 6), ((3,), 9), ((4,), 10), ((5,), 11))
        paper = ("shared", 5, rows, (5,) * 6)
        self.assertEqual(whole_part(paper), (((1,), 1), ((2,), 1), ((3,), 1), ((4,), 2), ((5,), 2)))
        self.assertEqual(whole_part(("shared", 2, (((0, 1), 1), ((0, 2), 1), ((1, 2), 1)), (1, 1, 1))), ())
        self.assertEqual(whole_part(("shared", 3, (), (0,))), ())
        self.assertEqual(whole_part(("shared", 1, (((0, 1), 7),), (1, 0))), (((0, 1), 7),))
        great = 10 ** 398
        self.assertEqual(whole_part(("shared", great, (((0,), great * 9 - 1),), (great,))), (((0,), 8),))
        self.assertEqual(whole_part(("shared", great, (((0,), great * 9),), (great,))), (((0,), 9),))

    def test_covers_just_at_the_bound(self):
        family = (3, ((0, 1), (0, 2), (1, 2)))
        self.assertEqual(cut_of(family, ("shared", 2, (), (1, 1, 1))), (0, 1, 2))
        self.assertEqual(cut_of(family, ("shared", 3, (), (1, 2, 2))), (1, 2))
        self.assertEqual(cut_of(family, ("shared", 4, (), (1, 3, 2))), (1, 2))
        great = 10 ** 398
        self.assertEqual(cut_of(family, ("shared", 2 * great, (), (great - 1, great + 1, great))), (1, 2))
        self.assertEqual(cut_of((3, ((0, 1, 2),)), ("shared", 3, (), (1, 0, 2))), (0, 2))
        # By the longest member, whatever is in the others.
        self.assertEqual(cut_of((4, ((0,), (1, 2, 3))), ("shared", 3, (), (3, 1, 1, 1))), (0, 1, 2, 3))
        self.assertEqual(cut_of((4, ((0,), (1, 2, 3))), ("shared", 6, (), (6, 1, 2, 3))), (0, 2, 3))

    def test_of_void(self):
        for n in range(9):
            for covers in [(0,) * n, (1,) * n, (10 ** 399,) * n]:
                self.assertEqual(cut_of((n, ()), ("shared", 1, (), covers)), ())
            self.assertEqual(whole_part(("shared", 1, (), (0,) * n)), ())
            self.check_paper((n, ()), (3,) * n, shared_told((n, ()), (3,) * n))
