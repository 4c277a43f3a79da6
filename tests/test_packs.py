"""[2], [5], [50] to [52]: PACKs, FULL places, GROWN and GREATEST ones."""

import random
import unittest

from rivalsets.packs import full_places, grown_pack, is_pack, most_packed, size_of
from tests.reference import (all_packs, bits, chance_weights, every_family, greatest_size, large_families, layer,
                             least_price, listed, meets_all, nested, odd_things, pack_fits, price, round_of,
                             small_families, small_weights, turned, turned_at_chance)

FAMILY = (4, ((0, 1), (0, 2), (1, 2, 3)))
NO_WHOLE = [family for family in small_families() + large_families() if family[1] != ((),)]


def chance_pack(source, family, weights):
    """A PACK for them, any."""
    counts, left = {}, list(weights)
    for count in range(source.randrange(30) if family[1] else 0):
        member = source.choice(family[1])
        if all(left[place] for place in member):
            more = source.randrange(1, min((left[place] for place in member), default=9) + 1)
            counts[member] = counts.get(member, 0) + more
            for place in member:
                left[place] -= more
    return tuple(sorted(counts.items()))


class IsPack(unittest.TestCase):
    def check(self, family, weights, thing, due):
        self.assertIs(pack_fits(family, weights, thing), due, (family, weights, thing))
        self.assertIs(is_pack(family, weights, thing), due, (family, weights, thing))

    def check_same(self, family, weights, thing):
        self.assertIs(is_pack(family, weights, thing), pack_fits(family, weights, thing), (family, weights, thing))

    def test_the_empty_one_always_is(self):
        for family in small_families() + large_families():
            for weights in [(0,) * family[0], (1,) * family[0], (99,) * family[0]]:
                self.check(family, weights, (), True)

    def test_of_void_it_is_the_only_one(self):
        for n in range(9):
            for thing in [(((), 1),), (((0,), 1),), ((),), [], None]:
                self.check((n, ()), (9,) * n, thing, False)

    def test_of_whole_any_count_is_one(self):
        for n in range(9):
            for count in (1, 2, 99, 100, 10 ** 399):
                self.check((n, ((),)), (0,) * n, (((), count),), True)
            for thing in [(((), 0),), (((), -1),), (((), True),), (([], 1),), (((), 1), ((), 1))]:
                self.check((n, ((),)), (9,) * n, thing, False)

    def test_written_out(self):
        weights = (3, 4, 2, 9)
        for thing in [(((0, 1), 1),), (((0, 1), 3),), (((0, 2), 2),), (((1, 2, 3), 2),),
                      (((0, 1), 1), ((0, 2), 2)), (((0, 1), 2), ((0, 2), 1), ((1, 2, 3), 1)),
                      (((0, 1), 3), ((1, 2, 3), 1))]:
            self.check(FAMILY, weights, thing, True)
        for thing in [(((0, 1), 4),), (((0, 1), 2), ((0, 2), 2)), (((0, 1), 3), ((1, 2, 3), 2)), (((0, 2), 3),),
                      (((0, 1), 1), ((0, 2), 1), ((1, 2, 3), 2))]:
            self.check(FAMILY, weights, thing, False)

    def test_counts(self):
        weights = (99, 99, 99, 99)
        for count in (1, 98, 99):
            self.check(FAMILY, weights, (((0, 1), count),), True)
        for count in (0, -1, 100, True, False, None, "1", (1,), [1], 10 ** 399, -10 ** 399):
            self.check(FAMILY, weights, (((0, 1), count),), False)
            self.check(FAMILY, weights, (((0, 1), 1), ((0, 2), count)), False)

    def test_members(self):
        weights = (9, 9, 9, 9)
        for member in [(), (0,), (1, 0), (0, 1, 2), (0, 3), (False, 1), (0, True), [0, 1], (0, 1, 1), (0, 1, 4), None,
                       "0,1", 0, True, ((0, 1),), ((0, 1), 1)]:
            self.check(FAMILY, weights, ((member, 1),), False)
        self.check((2, ((1,),)), (1, 1), (((1,), 1),), True)
        self.check((2, ((1,),)), (1, 1), (((True,), 1),), False)
        self.check((2, ((0,),)), (1, 1), (((False,), 1),), False)

    def test_not_rising_and_twice(self):
        weights = (9, 9, 9, 9)
        for thing in [(((0, 2), 1), ((0, 1), 1)), (((0, 1), 1), ((0, 1), 1)), (((1, 2, 3), 1), ((0, 1), 1)),
                      (((0, 1), 1), ((1, 2, 3), 1), ((0, 2), 1)), (((0, 1), 1), ((0, 1), 2))]:
            self.check(FAMILY, weights, thing, False)

    def test_lists_for_tuples(self):
        weights = (9, 9, 9, 9)
        for thing in [[((0, 1), 1)], ([(0, 1), 1],), (([0, 1], 1),), ((((0, 1),), 1),), (((0, 1), [1]),), [],
                      ((0, 1), 1), ((0, 1, 1),), (((0, 1), 1, 1),), (((0, 1),),), {}, ((1, (0, 1)),)]:
            self.check(FAMILY, weights, thing, False)

    def test_at_a_weight_and_one_above(self):
        source = random.Random(60)
        for family in NO_WHOLE:
            weights = chance_weights(source, family[0])
            for member in family[1]:
                room = min(weights[place] for place in member)
                self.check(family, weights, ((member, room + 1),), False)
                self.check(family, weights, ((member, room),), room > 0)

    def test_each_spot_turned(self):
        source = random.Random(61)
        for family in source.sample(every_family(4), 40) + large_families():
            weights = chance_weights(source, family[0])
            pack = chance_pack(source, family, weights)
            self.check(family, weights, pack, True)
            things = turned(pack, ["pack", ""])
            for thing in source.sample(things, min(len(things), 200)):
                self.check_same(family, weights, thing)
                self.check_same(family, weights, turned_at_chance(source, thing, ["pack"]))

    def test_any_thing(self):
        for family in [FAMILY, (4, ()), (4, ((),)), (0, ()), (0, ((),))]:
            weights = (9,) * family[0]
            for thing in odd_things():
                for told in [thing, (thing,), ((thing, 1),), (((0, 1), thing),), (((), thing),)]:
                    self.check_same(family, weights, told)
            for thing in [nested(60), listed(60), ((nested(50), 1),)]:
                self.check(family, weights, thing, False)


class SizeAndFull(unittest.TestCase):
    def test_by_counting(self):
        source = random.Random(62)
        for family in small_families() + large_families():
            weights = source.choice([chance_weights(source, family[0]), small_weights(source, family[0])])
            pack = chance_pack(source, family, weights)
            self.assertEqual(size_of(pack), sum(count for member, count in pack))
            self.assertIs(type(size_of(pack)), int)
            told = full_places(family, weights, pack)
            self.assertIs(type(told), tuple)
            self.assertEqual(told, tuple(
                place for place in range(family[0])
                if weights[place] == sum(count for member, count in pack if place in member)))

    def test_of_the_empty_one(self):
        self.assertEqual(size_of(()), 0)
        self.assertIs(type(size_of(())), int)
        for n in range(9):
            for family in [(n, ()), (n, ((),)), (n, (tuple(range(n)),))]:
                self.assertEqual(full_places(family, (0,) * n, ()), tuple(range(n)))
                self.assertEqual(full_places(family, (1,) * n, ()), ())
        self.assertEqual(full_places(FAMILY, (0, 3, 0, 1), ()), (0, 2))

    def test_written_out(self):
        pack = (((0, 1), 2), ((1, 2, 3), 1))
        self.assertEqual(size_of(pack), 3)
        self.assertEqual(full_places(FAMILY, (2, 3, 1, 1), pack), (0, 1, 2, 3))
        self.assertEqual(full_places(FAMILY, (3, 3, 2, 1), pack), (1, 3))
        self.assertEqual(full_places(FAMILY, (3, 4, 2, 2), pack), ())
        self.assertEqual(size_of((((), 10 ** 50),)), 10 ** 50)


class GrownPack(unittest.TestCase):
    def check(self, family, weights, pack):
        told = grown_pack(family, weights, pack)
        self.assertIs(type(told), tuple)
        self.assertIs(pack_fits(family, weights, told), True, (family, weights, pack, told))
        counts = dict(told)
        for member, count in pack:
            self.assertGreaterEqual(counts.get(member, 0), count)
        full = bits(full_places(family, weights, told))
        self.assertIs(meets_all(family, full), True, (family, weights, pack, told))
        longest = max((len(member) for member in family[1]), default=0)
        self.assertLessEqual(price(weights, full), longest * size_of(told))
        self.assertLessEqual(size_of(told), least_price(family, weights))
        self.assertEqual(grown_pack(family, weights, told), told)

    def test_of_the_empty_one_and_of_others(self):
        source = random.Random(63)
        for family in NO_WHOLE:
            n = family[0]
            for weights in [(0,) * n, (1,) * n, chance_weights(source, n), small_weights(source, n)]:
                self.check(family, weights, ())
                self.check(family, weights, chance_pack(source, family, weights))

    def test_of_whole_none(self):
        for n in range(9):
            for pack in [(), (((), 1),), (((), 10 ** 30),)]:
                self.assertIsNone(grown_pack((n, ((),)), (1,) * n, pack))

    def test_of_void(self):
        for n in range(9):
            self.assertEqual(grown_pack((n, ()), (1,) * n, ()), ())

    def test_written_out(self):
        self.assertEqual(grown_pack((3, ((0, 1, 2),)), (5, 3, 9), ()), (((0, 1, 2), 3),))
        self.assertEqual(grown_pack((3, ((0, 1, 2),)), (5, 3, 9), (((0, 1, 2), 1),)), (((0, 1, 2), 3),))
        self.assertEqual(grown_pack((3, ((0, 1, 2),)), (5, 0, 9), ()), ())
        self.assertEqual(grown_pack((4, ((0, 1), (0, 2), (3,))), (2, 2, 2, 4), (((0, 2), 2),)),
                         (((0, 2), 2), ((3,), 4)))


class MostPacked(unittest.TestCase):
    def check(self, family, weights, due):
        told = most_packed(family, weights)
        self.assertIs(type(told), tuple)
        self.assertIs(pack_fits(family, weights, told), True, (family, weights, told))
        self.assertEqual(size_of(told), due, (family, weights, told))
        self.assertLessEqual(due, least_price(family, weights))

    def test_by_going_through_all_packs(self):
        source = random.Random(64)
        for family in [family for n in range(4) for family in every_family(n)] + source.sample(every_family(4), 60):
            if family[1] == ((),):
                continue
            for count in range(3):
                weights = small_weights(source, family[0], 9)
                due = max(sum(count for member, count in pack) for pack in all_packs(family, weights))
                self.assertEqual(greatest_size(family, weights), due)
                self.check(family, weights, due)

    def test_of_weights_that_come_to_twelve(self):
        source = random.Random(65)
        for family in NO_WHOLE[::3] + large_families():
            if family[1] == ((),):
                continue
            n = family[0]
            several = [(12,) + (0,) * (n - 1), (0,) * (n - 1) + (12,), (0,) * n] if n else [()]
            for weights in several + [small_weights(source, n), small_weights(source, n)]:
                self.check(family, weights, greatest_size(family, weights))

    def test_many_members(self):
        for weights in [(1,) * 8, (2, 2, 2, 2, 1, 1, 1, 1), (1, 2, 1, 2, 1, 2, 1, 2)]:
            for size in range(1, 9):
                self.check(layer(8, size), weights, greatest_size(layer(8, size), weights))

    def test_of_whole_none(self):
        for n in range(9):
            self.assertIsNone(most_packed((n, ((),)), (0,) * n))
            self.assertIsNone(most_packed((n, ((),)), (1,) * n))

    def test_of_void(self):
        for n in range(9):
            self.assertEqual(most_packed((n, ()), (1,) * n), ())

    def test_written_out(self):
        self.assertEqual(most_packed((1, ((0,),)), (12,)), (((0,), 12),))
        self.assertEqual(most_packed((2, ((0, 1),)), (7, 5)), (((0, 1), 5),))
        self.assertEqual(most_packed((3, ((0, 1), (2,))), (2, 1, 3)), (((0, 1), 1), ((2,), 3)))
        self.check(round_of(3), (1, 1, 1), 1)
        self.check(round_of(3), (2, 2, 2), 3)
        self.check(round_of(5), (1, 1, 1, 1, 1), 2)
        self.check(round_of(5), (2, 2, 2, 2, 2), 5)
        # A longer way first: (0, 1) keeps out both of the others.
        self.check((4, ((0, 1), (0, 2), (1, 3))), (1, 1, 1, 1), 2)

    def test_somewhat_beyond_twelve(self):
        self.check(layer(4, 2), (5, 5, 5, 5), 10)
        self.check((1, ((0,),)), (99,), 99)
