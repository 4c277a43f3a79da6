"""[5], [85]: ORDERs, and things turned by them."""

import copy
import random
import unittest
from itertools import permutations

from rivalsets.families import is_family
from rivalsets.packs import is_pack
from rivalsets.sets import is_set
from rivalsets.turning import is_order, order_back, turned_family, turned_pack, turned_set, turned_weights
from rivalsets.weights import cost_of, is_weights
from tests.reference import (all_packs, chance_weights, large_families, layer, odd_things, renamed, small_families,
                             small_weights, subsets)


def is_order_of(n, thing):
    return (type(thing) is tuple and all(type(place) is int for place in thing)
            and sorted(thing) == list(range(n)))


class IsOrder(unittest.TestCase):
    def check(self, n, thing, due):
        self.assertIs(is_order(n, thing), due, (n, thing))
        self.assertIs(is_order_of(n, thing), due)

    def test_all_orders(self):
        for n in range(6):
            for order in permutations(range(n)):
                self.check(n, order, True)
                self.check(n, list(order), False)
                self.check(n + 1, order, False)
                if n:
                    self.check(n - 1, order, False)

    def test_of_no_places(self):
        self.check(0, (), True)
        for thing in [[], None, (0,), ((),), 0, "", False]:
            self.check(0, thing, False)

    def test_of_eight_places(self):
        source = random.Random(181)
        for count in range(40):
            order = tuple(source.sample(range(8), 8))
            self.check(8, order, True)
            at = source.randrange(8)
            for place in [None, -1, 8, 10 ** 399, order[at - 1], "0", (0,), [0], True, False]:
                self.check(8, order[:at] + (place,) + order[at + 1:], False)
            self.check(8, order[:7], False)
            self.check(8, order + (8,), False)

    def test_truths_and_wrong_ones(self):
        for thing in [(True,), (1,), (-1,), (None,), ("0",), ((0,),), [0], 0]:
            self.check(1, thing, False)
        for thing in [(0, True), (False, 1), (False, True), (True, 0), (0, 0), (1, 1), (1, 2), (0, -1), (0, 1, 2), (0,)]:
            self.check(2, thing, False)
        self.check(1, (False,), False)

    def test_any_thing(self):
        for n in range(9):
            for thing in odd_things() + [()]:
                self.assertIs(is_order(n, thing), type(thing) is tuple and is_order_told(n, thing))

    def test_lists_handed_in_are_as_they_were(self):
        thing = ([0], [1, [2]], 2)
        kept = copy.deepcopy(thing)
        self.check(3, thing, False)
        self.assertEqual(thing, kept)


def is_order_told(n, thing):
    return all(type(place) is int for place in thing) and is_order_of(n, thing)


class Turned(unittest.TestCase):
    def orders(self, source, n):
        if n < 4:
            return list(permutations(range(n)))
        return [tuple(range(n)), tuple(range(n))[::-1]] + [tuple(source.sample(range(n), n)) for count in range(4)]

    def test_order_back(self):
        source = random.Random(182)
        self.assertEqual(order_back(()), ())
        self.assertEqual(order_back((1, 2, 0)), (2, 0, 1))
        self.assertEqual(order_back((2, 0, 3, 1)), (1, 3, 0, 2))
        for n in range(9):
            for order in self.orders(source, n):
                back = order_back(order)
                self.assertIs(is_order(n, back), True)
                self.assertEqual([back[order[place]] for place in range(n)], list(range(n)))
                self.assertEqual(order_back(back), order)

    def test_sets(self):
        source = random.Random(183)
        self.assertEqual(turned_set((0, 1), (1, 2, 0)), (1, 2))
        self.assertEqual(turned_set((0, 2), (1, 2, 0)), (0, 1))
        self.assertEqual(turned_set((2,), (1, 2, 0)), (0,))
        for n in range(9):
            for order in self.orders(source, n):
                self.assertEqual(turned_set((), order), ())
                self.assertEqual(turned_set(tuple(range(n)), order), tuple(range(n)))
                for some in subsets(n):
                    told = turned_set(some, order)
                    self.assertIs(is_set(n, told), True)
                    self.assertEqual(set(told), {order[place] for place in some})
                    self.assertEqual(turned_set(told, order_back(order)), some)

    def test_families(self):
        source = random.Random(184)
        self.assertEqual(turned_family((3, ((0, 1), (2,))), (1, 2, 0)), (3, ((0,), (1, 2))))
        for family in small_families() + large_families():
            for order in self.orders(source, family[0]):
                told = turned_family(family, order)
                self.assertIs(is_family(told), True)
                self.assertEqual(told, renamed(family, order))
                self.assertEqual(turned_family(told, order_back(order)), family)
        for n in range(9):
            for order in self.orders(source, n):
                for size in range(n + 1):
                    self.assertEqual(turned_family(layer(n, size), order), layer(n, size))
                self.assertEqual(turned_family((n, ()), order), (n, ()))

    def test_weights(self):
        source = random.Random(185)
        self.assertEqual(turned_weights((10, 20, 30), (1, 2, 0)), (30, 10, 20))
        self.assertEqual(turned_weights((), ()), ())
        for n in range(9):
            for order in self.orders(source, n):
                weights = tuple(source.randrange(100) for place in range(n))
                told = turned_weights(weights, order)
                self.assertIs(is_weights(n, told), True)
                for place in range(n):
                    self.assertEqual(told[order[place]], weights[place])
                self.assertEqual(turned_weights(told, order_back(order)), weights)
                some = source.choice(subsets(n))
                self.assertEqual(cost_of(told, turned_set(some, order)), cost_of(weights, some))

    def test_packs(self):
        source = random.Random(186)
        self.assertEqual(turned_pack((((0, 1), 2), ((2,), 7)), (1, 2, 0)), (((0,), 7), ((1, 2), 2)))
        for family in small_families()[::2] + large_families():
            if family[1] == ((),):
                continue
            weights = small_weights(source, family[0], 4)
            packs = list(all_packs(family, weights))
            for order in self.orders(source, family[0])[:3]:
                for pack in source.sample(packs, min(len(packs), 4)):
                    told = turned_pack(pack, order)
                    self.assertIs(is_pack(renamed(family, order), turned_weights(weights, order), told), True)
                    self.assertEqual(turned_pack(told, order_back(order)), pack)
                    self.assertEqual(sorted(count for member, count in told), sorted(count for member, count in pack))
                    for member, count in pack:
                        self.assertIn((turned_set(member, order), count), told)
        for n in range(9):
            self.assertEqual(turned_pack((), tuple(range(n))), ())

    def test_weights_as_they_are_where_nothing_turns(self):
        source = random.Random(187)
        for n in range(9):
            weights = chance_weights(source, n)
            self.assertEqual(turned_weights(weights, tuple(range(n))), weights)
