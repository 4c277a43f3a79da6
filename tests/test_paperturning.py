"""[86]: papers turned."""

import random
import unittest

from rivalsets.dualchecker import lets_dual
from rivalsets.dualing import dual_told
from rivalsets.others import other_family
from rivalsets.pairchecker import lets_pair
from rivalsets.pairing import pair_told
from rivalsets.paperturning import turned_dual, turned_pair, turned_shared
from rivalsets.sharechecker import lets_shared
from rivalsets.sharing import number_of, shared_told
from rivalsets.turning import order_back, turned_family, turned_weights
from tests.reference import (chance_dual, chance_weights, dual_judged, large_families, layer, other_of, pair_judged,
                             renamed, round_of, scaled, shared_judged, shared_made, small_families, small_weights)

FAMILIES = small_families()[::2] + large_families()


def chance_order(source, n):
    return tuple(source.sample(range(n), n))


def places_turned(tree, order):
    """The words of a DUAL tree and the places at its splits, these turned."""
    if tree[0] == "split":
        return (tree[0], order[tree[1]], places_turned(tree[2], order), places_turned(tree[3], order))
    return tree[0]


class TurnedDual(unittest.TestCase):
    def check(self, one, other, paper, order):
        self.assertIs(lets_dual(one, other, paper), True)
        told = turned_dual(one, other, paper, order)
        first, second = renamed(one, order), renamed(other, order)
        self.assertIs(dual_judged(first, second, told), True, (one, paper, order))
        self.assertIs(lets_dual(first, second, told), True)
        self.assertEqual(places_turned(told, range(8)), places_turned(paper, order))
        self.check_ends(one, other, first, second, paper, told, order)
        self.assertEqual(turned_dual(first, second, told, order_back(order)), paper)

    def check_ends(self, one, other, first, second, paper, told, order):
        if paper[0] == "split":
            for at in (2, 3):
                self.check_ends(one, other, first, second, paper[at], told[at], order)
            return
        old, new = (one, first) if paper[0] == "one" else (other, second)
        self.assertEqual(sorted(order[place] for place in old[1][paper[1]]), list(new[1][told[1]]))

    def test_written_out(self):
        one, other = (3, ((0, 1), (2,))), (3, ((0, 2), (1, 2)))
        paper = ("split", 2, ("one", 1), ("split", 0, ("split", 1, ("one", 0), ("other", 1)), ("other", 0)))
        self.assertIs(lets_dual(one, other, paper), True)
        # By (1, 2, 0) the one is ((0,), (1, 2)), the other one ((0, 1), (0, 2)).
        self.assertEqual(turned_dual(one, other, paper, (1, 2, 0)),
                         ("split", 0, ("one", 0), ("split", 1, ("split", 2, ("one", 1), ("other", 1)), ("other", 0))))

    def test_told_ones(self):
        source = random.Random(191)
        for family in FAMILIES:
            other = other_family(family)
            paper = dual_told(family, other)[1]
            for count in range(3):
                self.check(family, other, paper, chance_order(source, family[0]))

    def test_ones_at_chance(self):
        source = random.Random(192)
        for family in FAMILIES[::3] + [layer(8, 4), layer(8, 2), round_of(7)]:
            other = other_of(family)
            self.check(family, other, chance_dual(source, family, other), chance_order(source, family[0]))

    def test_void_and_whole(self):
        source = random.Random(193)
        for n in range(9):
            order = chance_order(source, n)
            self.check((n, ()), (n, ((),)), ("other", 0), order)
            self.check((n, ((),)), (n, ()), ("one", 0), order)


class TurnedPair(unittest.TestCase):
    def test_told_ones(self):
        source = random.Random(194)
        found = 0
        for family in FAMILIES:
            weights = small_weights(source, family[0])
            paper = pair_told(family, weights)
            if paper is None or paper[0] != "pair":
                continue
            found += 1
            for count in range(3):
                order = chance_order(source, family[0])
                told = turned_pair(paper, order)
                first, second = renamed(family, order), turned_weights(weights, order)
                self.assertIs(pair_judged(first, second, told), True, (family, paper, order))
                self.assertIs(lets_pair(first, second, told), True)
                self.assertEqual(turned_pair(told, order_back(order)), paper)
        self.assertGreater(found, 40)

    def test_written_out(self):
        paper = ("pair", (0, 2), (((0, 1), 3), ((2,), 1)))
        self.assertIs(lets_pair((3, ((0, 1), (2,))), (3, 5, 1), paper), True)
        self.assertEqual(turned_pair(paper, (1, 2, 0)), ("pair", (0, 1), (((0,), 1), ((1, 2), 3))))
        for n in range(9):
            self.assertEqual(turned_pair(("pair", (), ()), tuple(range(n))[::-1]), ("pair", (), ()))


class TurnedShared(unittest.TestCase):
    def check(self, family, weights, paper, order):
        told = turned_shared(paper, order)
        first, second = turned_family(family, order), turned_weights(weights, order)
        self.assertIs(shared_judged(first, second, told), True, (family, paper, order))
        self.assertIs(lets_shared(first, second, told), True)
        self.assertEqual(told[1], paper[1])
        self.assertEqual([told[3][order[place]] for place in range(family[0])], list(paper[3]))
        self.assertEqual(number_of(told), number_of(paper))
        self.assertEqual(turned_shared(told, order_back(order)), paper)

    def test_told_and_made_ones(self):
        source = random.Random(195)
        for family in FAMILIES:
            if family[1] == ((),):
                continue
            weights = chance_weights(source, family[0])
            made = shared_made(source, family, weights)
            for paper in [shared_told(family, weights), made, scaled(made, 6), scaled(made, 10 ** 396)]:
                self.check(family, weights, paper, chance_order(source, family[0]))

    def test_written_out(self):
        paper = ("shared", 2, (((0, 1), 6), ((2,), 2)), (2, 0, 2))
        self.assertIs(lets_shared((3, ((0, 1), (2,))), (3, 5, 1), paper), True)
        self.assertEqual(turned_shared(paper, (1, 2, 0)), ("shared", 2, (((0,), 2), ((1, 2), 6)), (2, 2, 0)))
        self.assertEqual(turned_shared(("shared", 5, (), ()), ()), ("shared", 5, (), ()))
