"""[2], [41] to [43]: WEIGHTS, COSTs, cheapest and shortest ones, the CHEAPER ones."""

import random
import unittest

from rivalsets.others import shortest
from rivalsets.weights import cheaper_ones, cheapest, cost_of, is_weights, shortest_by
from tests.reference import (bits, chance_weights, large_families, layer, least_price, meets_all, odd_things, other_of,
                             price, small_families, subsets)

FAMILIES = small_families()[::2] + large_families()


def some_weights(source, n):
    return [(0,) * n, (1,) * n, (99,) * n, tuple(range(n)), chance_weights(source, n), chance_weights(source, n, 4)]


class IsWeights(unittest.TestCase):
    def test_ordinary_and_edges(self):
        for n in range(9):
            for thing in [(0,) * n, (99,) * n, (1,) * n, tuple(range(n))]:
                self.assertIs(is_weights(n, thing), True)
                self.assertIs(is_weights(n, thing + (0,)), False)
                self.assertIs(is_weights(n + 1, thing), False)
                self.assertIs(is_weights(n, list(thing)), False)
                self.assertIs(is_weights(n, (thing,)), n == 0 and thing != ())

    def test_one_number_otherwise(self):
        for n in range(1, 9):
            for at in range(n):
                for thing in [100, -1, True, False, None, "1", (1,), [1], (), 10 ** 399, -10 ** 399]:
                    told = (5,) * at + (thing,) + (5,) * (n - at - 1)
                    self.assertIs(is_weights(n, told), False, told)
                for thing in (0, 1, 98, 99):
                    self.assertIs(is_weights(n, (5,) * at + (thing,) + (5,) * (n - at - 1)), True)

    def test_of_no_places(self):
        self.assertIs(is_weights(0, ()), True)
        for thing in [(0,), [], None, 0, "", False, ((),)]:
            self.assertIs(is_weights(0, thing), False)

    def test_any_other_thing(self):
        for thing in odd_things():
            for n in range(9):
                self.assertIs(is_weights(n, thing), False, thing)


class CostOf(unittest.TestCase):
    def test_by_counting(self):
        source = random.Random(44)
        for n in range(9):
            for weights in some_weights(source, n):
                for some in subsets(n):
                    told = cost_of(weights, some)
                    self.assertEqual(told, price(weights, bits(some)))
                    self.assertIs(type(told), int)

    def test_written_out(self):
        self.assertEqual(cost_of((), ()), 0)
        self.assertEqual(cost_of((5, 7, 9), ()), 0)
        self.assertEqual(cost_of((5, 7, 9), (0, 2)), 14)
        self.assertEqual(cost_of((99,) * 8, tuple(range(8))), 792)


class Cheapest(unittest.TestCase):
    def test_by_going_through_all_sets(self):
        source = random.Random(45)
        for family in FAMILIES:
            for weights in some_weights(source, family[0]):
                told = cheapest(family, weights)
                if family[1] == ((),):
                    self.assertIsNone(told)
                    continue
                self.assertIs(type(told), tuple)
                self.assertIn(told, subsets(family[0]))
                self.assertIs(meets_all(family, bits(told)), True)
                self.assertEqual(price(weights, bits(told)), least_price(family, weights))

    def test_void_and_whole(self):
        for n in range(9):
            for weights in [(0,) * n, (3,) * n]:
                self.assertIsNone(cheapest((n, ((),)), weights))
                told = cheapest((n, ()), weights)
                self.assertIs(type(told), tuple)
                self.assertEqual(price(weights, bits(told)), 0)
        self.assertEqual(cheapest((3, ()), (1, 1, 1)), ())

    def test_written_out(self):
        self.assertEqual(cheapest((3, ((0, 1), (1, 2))), (1, 5, 1)), (0, 2))
        self.assertEqual(cheapest((3, ((0, 1), (1, 2))), (9, 5, 9)), (1,))
        self.assertEqual(cheapest((2, ((0,), (1,))), (0, 99)), (0, 1))


class ShortestBy(unittest.TestCase):
    def test_by_going_through_all_members(self):
        source = random.Random(46)
        for family in FAMILIES:
            for lengths in some_weights(source, family[0]):
                told = shortest_by(family, lengths)
                if not family[1]:
                    self.assertIsNone(told)
                    continue
                self.assertIn(told, family[1])
                self.assertEqual(price(lengths, bits(told)), min(price(lengths, bits(low)) for low in family[1]))

    def test_by_ones_it_is_the_shortest(self):
        for family in FAMILIES:
            told = shortest_by(family, (1,) * family[0])
            self.assertEqual(None if told is None else len(told), shortest(family))

    def test_void_and_whole(self):
        for n in range(9):
            self.assertIsNone(shortest_by((n, ()), (1,) * n))
            self.assertEqual(shortest_by((n, ((),)), (1,) * n), ())

    def test_written_out(self):
        self.assertEqual(shortest_by((4, ((0, 1, 2), (0, 3))), (0, 1, 1, 5)), (0, 1, 2))
        self.assertEqual(shortest_by((4, ((0, 1, 2), (0, 3))), (9, 1, 1, 1)), (0, 3))


class CheaperOnes(unittest.TestCase):
    def due(self, family, weights, bound):
        costs = [(price(weights, bits(member)), member) for member in other_of(family)[1]]
        return [member for cost, member in sorted(costs) if cost < bound]

    def test_by_counting(self):
        source = random.Random(47)
        for family in FAMILIES:
            for weights in some_weights(source, family[0]):
                costs = [price(weights, bits(member)) for member in other_of(family)[1]]
                edges = [cost + more for cost in source.sample(costs, min(len(costs), 2)) for more in (0, 1)]
                for bound in [0, 1, 800, source.randrange(801)] + edges:
                    told = cheaper_ones(family, weights, bound)
                    self.assertIs(type(told), list)
                    self.assertEqual(told, self.due(family, weights, bound))

    def test_written_out(self):
        family = (4, ((0, 1), (2, 3)))
        self.assertEqual(cheaper_ones(family, (2, 1, 1, 2), 4), [(1, 2), (0, 2), (1, 3)])
        self.assertEqual(cheaper_ones(family, (2, 1, 1, 2), 5), [(1, 2), (0, 2), (1, 3), (0, 3)])
        self.assertEqual(cheaper_ones(family, (2, 1, 1, 2), 3), [(1, 2)])
        self.assertEqual(cheaper_ones(family, (2, 1, 1, 2), 2), [])
        self.assertEqual(cheaper_ones((3, ((0, 1), (1, 2))), (0, 0, 0), 1), [(0, 2), (1,)])

    def test_void_and_whole(self):
        for n in range(9):
            for weights in [(0,) * n, (1,) * n]:
                self.assertEqual(cheaper_ones((n, ()), weights, 0), [])
                self.assertEqual(cheaper_ones((n, ()), weights, 1), [()])
                self.assertEqual(cheaper_ones((n, ((),)), weights, 800), [])

    def test_the_list_is_the_askers_own(self):
        told = cheaper_ones(layer(4, 2), (1, 1, 1, 1), 800)
        kept = list(told)
        told.clear()
        self.assertEqual(cheaper_ones(layer(4, 2), (1, 1, 1, 1), 800), kept)
        self.assertEqual(len(kept), 4)
