"""[2], [5], [68] to [70]: the checker of LOOKs, and what they show."""

import copy
import random
import unittest
from itertools import product

from rivalsets.errors import NoPaper
from rivalsets.lookchecker import lets_look
from rivalsets.pairchecker import lets_pair
from rivalsets.pairing import pair_told
from rivalsets.webs import cuts_family, ways_family
from tests.reference import (all_looks, as_family, chance_family, chance_web, cuts_of, every_family, greatest_size,
                             large_families, layer, least_price, listed, look_judged, nested, odd_things, round_of,
                             said, small_families, small_weights, turned, turned_at_chance, ways_of)

WORDS = ["parts", "tree", "ways", "cuts", "Parts", ""]
PATH = (4, ((0, 1), (1, 2), (2, 3)))
BRIDGE = (4, ((0, 1), (0, 2), (1, 2), (1, 3), (2, 3)))
RING = (4, ((0, 1), (1, 2), (2, 3), (0, 3)))


class LetsLook(unittest.TestCase):
    def check(self, family, thing, due):
        self.assertEqual(look_judged(family, thing), due, (family, thing))
        self.check_same(family, thing)

    def check_same(self, family, thing):
        self.assertEqual(said(NoPaper, lets_look, family, thing), look_judged(family, thing), (family, thing))

    def test_parts(self):
        self.check(PATH, ("parts", (0, 2)), True)
        self.check(PATH, ("parts", (1, 3)), True)
        self.check(round_of(4), ("parts", (0, 2)), True)
        self.check(round_of(8), ("parts", (1, 3, 5, 7)), True)
        self.check((5, ((0, 1),)), ("parts", (0, 3)), True)
        self.check((5, ((0, 1),)), ("parts", (1,)), True)
        self.check((2, ((0, 1),)), ("parts", ()), ("side", 0))
        self.check((2, ((0, 1),)), ("parts", (0, 1)), ("side", 0))
        self.check(round_of(3), ("parts", (0,)), ("side", 2))
        self.check(round_of(3), ("parts", (1,)), ("side", 1))

    def test_parts_two_and_side(self):
        self.check((3, ((0,), (1, 2))), ("parts", (1,)), ("two", 0))
        self.check((4, ((0, 1), (1, 2, 3))), ("parts", (0,)), ("two", 1))
        self.check((5, ((0, 1), (1, 2), (2, 3, 4))), ("parts", (0,)), ("side", 1))
        self.check((5, ((0, 1), (1, 2), (2, 3, 4))), ("parts", (0, 2)), ("two", 2))
        self.check((5, ((0, 1, 2), (1, 3), (3, 4))), ("parts", ()), ("two", 0))
        self.check((3, ((0,), (1,), (2,))), ("parts", (0,)), ("two", 0))
        self.check((8, (tuple(range(8)),)), ("parts", (0,)), ("two", 0))

    def test_tree(self):
        self.check(PATH, ("tree", (1, 2, 3, -1)), True)
        self.check(PATH, ("tree", (-1, 0, 1, 2)), True)
        self.check((4, ((0, 1, 2, 3),)), ("tree", (2, -1, 3, 1)), True)
        self.check((4, ((0, 3), (1, 3), (2, 3))), ("tree", (3, 3, 3, -1)), True)
        self.check((3, ((0,), (1,), (2,))), ("tree", (-1, -1, -1)), True)
        self.check((3, ((0,), (1,), (2,))), ("tree", (1, 2, -1)), True)
        # Out of order: 2 is lowest, 0 next, 1 last.
        self.check((3, ((0, 1, 2),)), ("tree", (1, -1, 0)), True)
        self.check((3, ((0, 1), (0, 2))), ("tree", (1, -1, 0)), True)
        self.check((8, ((0, 1, 2, 3, 4, 5, 6, 7),)), ("tree", (1, 2, 3, 4, 5, 6, 7, -1)), True)
        self.check((8, ((0, 1, 2, 3, 4, 5, 6, 7),)), ("tree", (-1, 0, 1, 2, 3, 4, 5, 6)), True)

    def test_tree_endless(self):
        family = (4, ((0, 1),))
        self.check(family, ("tree", (1, -1, 2, -1)), ("endless", 2))
        self.check(family, ("tree", (0, -1, -1, -1)), ("endless", 0))
        self.check(family, ("tree", (1, -1, 3, 2)), ("endless", 2))
        self.check(family, ("tree", (-1, -1, -1, 3)), ("endless", 3))
        # A place that leads into a round, but isn't on it.
        self.check(family, ("tree", (1, 2, 3, 2)), ("endless", 0))
        self.check(family, ("tree", (-1, 3, 2, 2)), ("endless", 1))
        self.check(family, ("tree", (1, -1, -1, 3)), ("endless", 3))
        self.check(family, ("tree", (1, 2, 3, 0)), ("endless", 0))
        self.check((8, ()), ("tree", (1, 2, 3, 4, 5, 6, 7, 0)), ("endless", 0))
        self.check((8, ()), ("tree", (1, 2, 3, 4, 5, 6, 7, 7)), ("endless", 0))
        self.check((8, ()), ("tree", (1, 2, 3, 4, 5, 6, 7, -1)), True)
        self.check((1, ()), ("tree", (0,)), ("endless", 0))
        # Ahead of a member that is no row.
        self.check((4, ((0, 1),)), ("tree", (-1, -1, -1, 3)), ("endless", 3))

    def test_tree_row(self):
        self.check((3, ((0, 2),)), ("tree", (1, 2, -1)), ("row", 0))
        self.check((3, ((0, 1),)), ("tree", (2, 2, -1)), ("row", 0))
        self.check((3, ((0, 1, 2),)), ("tree", (2, 2, -1)), ("row", 0))
        self.check((4, ((0, 1, 3),)), ("tree", (1, 2, 3, -1)), ("row", 0))
        self.check((4, ((0,), (1, 2), (1, 3))), ("tree", (-1, 2, -1, 1)), True)
        self.check((4, ((0,), (1, 2), (2, 3))), ("tree", (-1, 2, -1, 1)), ("row", 2))
        self.check(round_of(3), ("tree", (1, 2, -1)), ("row", 1))
        self.check(round_of(3), ("tree", (-1, -1, -1)), ("row", 0))
        self.check((4, ((0, 1), (2, 3))), ("tree", (1, -1, -1, -1)), ("row", 1))
        self.check((4, ((0, 1, 2), (1, 2, 3))), ("tree", (1, 2, -1, 2)), ("row", 1))
        self.check((5, ((0, 1, 2, 3), (4,))), ("tree", (1, -1, 3, -1, -1)), ("row", 0))

    def test_ways_and_cuts(self):
        self.check((5, ((0, 2, 4), (0, 3), (1, 2, 3), (1, 4))), ("ways", BRIDGE, 0, 3), True)
        self.check((5, ((0, 2, 4), (0, 3), (1, 2, 3), (1, 4))), ("ways", BRIDGE, 3, 0), True)
        self.check((5, ((0, 1), (0, 2, 4), (1, 2, 3), (3, 4))), ("cuts", BRIDGE, 0, 3), True)
        self.check((4, ((0, 1), (2, 3))), ("ways", RING, 0, 2), True)
        self.check((4, ((0, 1), (2, 3))), ("ways", RING, 1, 3), ("lacks", 0))
        self.check((4, ((0, 2), (0, 3), (1, 2), (1, 3))), ("cuts", RING, 0, 2), True)
        source = random.Random(141)
        for count in range(60):
            web = chance_web(source)
            a, b = source.randrange(web[0]), source.randrange(web[0])
            for word, family in [("ways", ways_of(web, a, b)), ("cuts", cuts_of(web, a, b))]:
                self.check(family, (word, web, a, b), ("whole", 0) if family[1] == ((),) else True)

    def test_ties(self):
        for n in (0, 1, 3, 5, 8):
            self.check((n, ()), ("ways", RING, 0, 2), ("ties", 4))
            self.check((n, ()), ("cuts", RING, 0, 0), ("ties", 4))
            self.check((n, ()), ("ways", (2, ()), 0, 1), ("ties", 0) if n else True)
        self.check((4, ()), ("ways", (2, ((0, 1),) * 8), 0, 1), ("ties", 8))

    def test_lacks_and_more(self):
        ways = (5, ((0, 2, 4), (0, 3), (1, 2, 3), (1, 4)))
        for number in range(4):
            fewer = (5, ways[1][:number] + ways[1][number + 1:])
            self.check(fewer, ("ways", BRIDGE, 0, 3), ("lacks", number))
        self.check((5, ways[1][1:3]), ("ways", BRIDGE, 0, 3), ("lacks", 0))
        self.check((5, ways[1][:1] + ways[1][3:]), ("ways", BRIDGE, 0, 3), ("lacks", 1))
        self.check((5, ()), ("ways", BRIDGE, 0, 3), ("lacks", 0))
        self.check((5, ((0, 1), ) + ways[1]), ("ways", BRIDGE, 0, 3), ("more", 0))
        self.check((5, tuple(sorted(ways[1] + ((3, 4),)))), ("ways", BRIDGE, 0, 3), ("more", 4))
        self.check((5, tuple(sorted(ways[1] + ((0, 1), (3, 4))))), ("ways", BRIDGE, 0, 3), ("more", 0))
        self.check((5, ((0, 1), (3, 4))), ("ways", BRIDGE, 0, 3), ("lacks", 0))
        self.check((5, ((0, 2, 4), (0, 3), (1, 2, 3), (3, 4))), ("ways", BRIDGE, 0, 3), ("lacks", 3))
        # A spot and itself: its ways are WHOLE, its cuts VOID.
        self.check((4, ()), ("ways", RING, 1, 1), ("lacks", 0))
        self.check((4, ((0, 1),)), ("ways", RING, 1, 1), ("lacks", 0))
        self.check((4, ()), ("cuts", RING, 1, 1), True)
        self.check((4, ((0, 1),)), ("cuts", RING, 1, 1), ("more", 0))
        apart = (4, ((0, 1), (2, 3)))
        self.check((2, ()), ("ways", apart, 0, 2), True)
        self.check((2, ((0,),)), ("ways", apart, 0, 2), ("more", 0))
        self.check((2, ()), ("cuts", apart, 0, 2), ("lacks", 0))

    def test_whole(self):
        for n in range(9):
            whole = (n, ((),))
            self.check(whole, ("parts", ()), ("whole", 0))
            self.check(whole, ("parts", tuple(range(n))), ("whole", 0))
            self.check(whole, ("tree", (-1,) * n), ("whole", 0))
            self.check(whole, ("tree", tuple(range(n))), ("whole", 0))
            for many in (n, (n + 1) % 9):
                for word in ("ways", "cuts"):
                    for a, b in [(0, 0), (0, 1), (0, 2)]:
                        self.check(whole, (word, (3, ((0, 1),) * many), a, b), ("whole", 0))
            self.check(whole, ("parts", (n,)), ("shape", 0))
            self.check(whole, ("tree", (-1,) * (n + 1)), ("shape", 0))

    def test_void(self):
        for n in range(9):
            void = (n, ())
            self.check(void, ("parts", ()), True)
            self.check(void, ("parts", tuple(range(n))), True)
            self.check(void, ("tree", (-1,) * n), True)
            self.check(void, ("ways", (3, ((0, 1),) * n), 0, 2), True)
            self.check(void, ("cuts", (3, ((0, 1),) * n), 2, 2), True)
            if n:
                self.check(void, ("tree", tuple(range(n))), ("endless", 0))

    def test_shape(self):
        ways = ("ways", RING, 0, 2)
        for thing in [None, True, 0, "parts", (), [], ("parts",), ("tree",), ("parts", (), ()), ("tree", (-1,) * 4, 0),
                      ["parts", ()], ["tree", (-1,) * 4], list(ways), ways[:3], ways + (0,), ("ways", RING), ("cuts",),
                      ("ways", (-1,) * 4), ("parts", RING, 0, 2), ("Ways",) + ways[1:], (("parts",), ()), ((), "parts"),
                      ("side", ()), ("even", ()), (None, ()), (["parts"], ())]:
            self.check(PATH, thing, ("shape", 0))

    def test_shape_of_parts(self):
        for side in [None, True, 0, "", "0", [], [0], (4,), (-1,), (1, 0), (0, 0), (True,), (False, 1), (0, None),
                     ("0",), ((0,),), ([0],), (0, 1, 2, 3, 4), (10 ** 399,)]:
            self.check(PATH, ("parts", side), ("shape", 0))

    def test_shape_of_tree(self):
        good = (1, 2, 3, -1)
        for parents in [None, (), good[:3], good + (-1,), list(good), -1, "123", (good,)]:
            self.check(PATH, ("tree", parents), ("shape", 0))
        for above in [None, True, False, -2, 4, 10 ** 399, -10 ** 399, "1", (1,), [1], ()]:
            for at in range(4):
                self.check(PATH, ("tree", good[:at] + (above,) + good[at + 1:]), ("shape", 0))
        # Truths that are like the numbers they stand for.
        self.check((2, ((0, 1),)), ("tree", (True, -1)), ("shape", 0))
        self.check((2, ((0, 1),)), ("tree", (-1, False)), ("shape", 0))
        self.check((0, ()), ("tree", ()), True)
        self.check((0, ()), ("tree", (-1,)), ("shape", 0))

    def test_shape_of_webs(self):
        family = (4, ((0, 1), (2, 3)))
        for word in ("ways", "cuts"):
            for web in [None, (), [], (0, ()), (7, ()), (4, []), (4, [(0, 1)]), (True, ()), list(RING),
                        (4, RING[1][:3] + ((3, 0),)), (4, RING[1][:3] + ((0, 4),)), (4, RING[1][:3] + ((3, 3),)),
                        (4, RING[1][:3] + ([0, 3],)), (4, RING[1][:3] + ((False, 3),)), (2, ((0, 1),) * 9)]:
                self.check(family, (word, web, 0, 1), ("shape", 0))
            for spot in [None, True, False, -1, 4, 10 ** 399, "0", (0,), [0], ()]:
                self.check(family, (word, RING, spot, 2), ("shape", 0))
                self.check(family, (word, RING, 0, spot), ("shape", 0))
                self.check(family, (word, RING, spot, spot), ("shape", 0))

    def test_two_faults_the_first_one_goes(self):
        self.check((4, ((),)), ("parts", [0]), ("shape", 0))
        self.check((4, ((),)), ("ways", (0, ()), 0, 0), ("shape", 0))
        self.check((4, ((),)), ("tree", (0, 0, 0, 0)), ("whole", 0))
        self.check((4, ((0, 1), (0, 2, 3))), ("parts", ()), ("side", 0))
        self.check((4, ((0, 1, 2), (2, 3))), ("parts", ()), ("two", 0))
        self.check((4, ((0, 1), (0, 2), (0, 3))), ("tree", (0, 0, -1, -1)), ("endless", 0))
        self.check((4, ((0, 1), (0, 2), (0, 3))), ("tree", (-1, -1, -1, 3)), ("endless", 3))
        self.check((4, ((0, 1), (0, 2), (0, 3))), ("tree", (-1, 0, -1, -1)), ("row", 1))
        self.check((5, ((0, 1),)), ("ways", RING, 0, 2), ("ties", 4))
        self.check((4, ((0, 1), (1, 2))), ("ways", RING, 0, 2), ("lacks", 1))
        self.check((4, ((0, 2), (2, 3))), ("ways", RING, 0, 2), ("lacks", 0))

    def test_all_looks_of_small_families(self):
        for n in range(4):
            for family in every_family(n):
                for look in all_looks(n):
                    self.check_same(family, look)

    def test_looks_at_chance(self):
        source = random.Random(142)
        for family in small_families()[::3] + large_families():
            n = family[0]
            for count in range(25):
                side = tuple(place for place in range(n) if source.randrange(2))
                self.check_same(family, ("parts", side))
                self.check_same(family, ("tree", tuple(source.randrange(-1, n) for place in range(n))))
                rising = tuple(source.choice([-1, *range(place + 1, n)]) for place in range(n))
                self.check_same(family, ("tree", rising))
        for count in range(150):
            web = chance_web(source)
            a, b = source.randrange(web[0]), source.randrange(web[0])
            family = source.choice([ways_of, cuts_of])(web, a, source.randrange(web[0]))
            self.check_same(family, (source.choice(["ways", "cuts"]), web, a, b))

    def test_each_spot_turned(self):
        source = random.Random(143)
        told = [(PATH, ("parts", (0, 2))), (PATH, ("tree", (1, 2, 3, -1)))]
        told += [(ways_of(web, a, b), ("ways", web, a, b)) for web, a, b in [(RING, 0, 2), (BRIDGE, 0, 3)]]
        told += [(cuts_of(web, a, b), ("cuts", web, a, b)) for web, a, b in [(RING, 0, 1), (BRIDGE, 1, 2)]]
        for family, look in told:
            for thing in turned(look, WORDS):
                self.check_same(family, thing)
                self.check_same(family, turned_at_chance(source, thing, WORDS) if thing else thing)

    def test_any_thing(self):
        for family in [PATH, (2, ()), (2, ((),)), (0, ()), (0, ((),)), layer(8, 4)]:
            for thing in odd_things() + [(), nested(60), listed(60)]:
                for told in [thing, ("parts", thing), ("tree", thing), (thing, ()), ("tree", (thing,) * family[0]),
                             ("ways", thing, 0, 0), ("cuts", RING, thing, 0), ("ways", RING, 0, thing),
                             ("ways", (thing, ()), 0, 0), ("cuts", (4, (thing,)), 0, 0), (thing, RING, 0, 2)]:
                    self.check_same(family, told)

    def test_lists_handed_in_are_as_they_were(self):
        thing = ("ways", (4, [(0, 1), [1, 2]]), 0, [2])
        kept = copy.deepcopy(thing)
        self.check(PATH, thing, ("shape", 0))
        self.assertEqual(thing, kept)


class WhatTheyShow(unittest.TestCase):
    def check_even(self, family, weights):
        self.assertEqual(least_price(family, weights), greatest_size(family, weights), (family, weights))
        told = pair_told(family, weights)
        self.assertEqual(told[0], "pair")
        self.assertIs(lets_pair(family, weights, told), True)

    def test_a_family_with_parts_or_a_tree_comes_out_even(self):
        source = random.Random(144)
        for family in small_families():
            if any(said(NoPaper, lets_look, family, look) is True for look in all_looks(family[0])):
                for count in range(4):
                    self.check_even(family, small_weights(source, family[0]))

    def test_larger_trees_and_parts(self):
        source = random.Random(145)
        found = 0
        for count in range(60):
            n = source.randrange(5, 9)
            parents = tuple(source.choice([-1, *range(place + 1, n)]) for place in range(n))
            rows = []
            for turn in range(source.randrange(1, 8)):
                row, place, most = 0, source.randrange(n), source.randrange(1, 5)
                while place != -1 and most:
                    row, place, most = row | 1 << place, parents[place], most - 1
                rows.append(row)
            family = as_family(n, rows)
            self.assertIs(lets_look(family, ("tree", parents)), True)
            self.check_even(family, small_weights(source, n))
            side = tuple(place for place in range(n) if source.randrange(2))
            pairs = [(a, b) for a, b in product(range(n), repeat=2) if a < b and (a in side) != (b in side)]
            family = (n, tuple(sorted(source.sample(pairs, min(len(pairs), source.randrange(9))))))
            self.assertIs(lets_look(family, ("parts", side)), True)
            self.check_even(family, small_weights(source, n))
            found += 1
        self.assertEqual(found, 60)

    def test_ways_and_cuts_come_out_even(self):
        source = random.Random(146)
        found = 0
        while found < 60:
            web = chance_web(source)
            a, b = source.randrange(web[0]), source.randrange(web[0])
            for word, family in [("ways", ways_family(web, a, b)), ("cuts", cuts_family(web, a, b))]:
                if family[1] != ((),):
                    self.assertIs(lets_look(family, (word, web, a, b)), True)
                    self.check_even(family, small_weights(source, family[0]))
                    found += 1

    def test_whole_never_does(self):
        for n in range(9):
            self.assertIsNone(pair_told((n, ((),)), (1,) * n))

    def test_whatever_is_let_by(self):
        source = random.Random(147)
        let = 0
        for count in range(4000):
            n = source.randrange(1, 7)
            family = chance_family(source, n, 3)
            rising = tuple(source.choice([-1, *range(place + 1, n)]) for place in range(n))
            side = tuple(place for place in range(n) if source.randrange(2))
            for look in [("tree", rising), ("parts", side)]:
                if said(NoPaper, lets_look, family, look) is True:
                    self.check_even(family, small_weights(source, n, 8))
                    let += 1
        self.assertGreater(let, 200)
