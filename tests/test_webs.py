"""[65] to [67]: WEBs, WAYS and CUTS."""

import copy
import random
import unittest
from itertools import combinations_with_replacement

from rivalsets.families import is_family
from rivalsets.others import other_family
from rivalsets.webs import cuts_family, is_web, ways_family
from tests.reference import chance_web, cuts_of, is_web_of, odd_things, turned, ways_of

RING = (4, ((0, 1), (1, 2), (2, 3), (0, 3)))


class IsWeb(unittest.TestCase):
    def check(self, thing, due):
        self.assertIs(is_web(thing), due, thing)
        self.assertIs(is_web_of(thing), due)

    def test_spots(self):
        for many in range(1, 7):
            self.check((many, ()), True)
        for many in [0, 7, 8, -1, 10 ** 399, -10 ** 399, True, False, None, "3", (3,), [3]]:
            self.check((many, ()), False)
        self.check((6, ((4, 5),)), True)
        self.check((7, ((0, 1),)), False)

    def test_how_many_ties(self):
        for many in range(9):
            self.check((2, ((0, 1),) * many), True)
            self.check((6, ((0, 1), (0, 5), (2, 3), (1, 4), (0, 1), (4, 5), (0, 5), (3, 5))[:many]), True)
        for many in (9, 10, 40):
            self.check((2, ((0, 1),) * many), False)

    def test_ties(self):
        self.check(RING, True)
        self.check((3, ((1, 2), (0, 1), (0, 2), (0, 1))), True)
        for tie in [(0, 0), (2, 2), (1, 0), (2, 0), (0, 3), (3, 4), (-1, 0), (-2, -1), (0,), (), (0, 1, 2), [0, 1],
                    (0, True), (False, 1), (False, True), (None, 1), (0, None), ("0", 1), (0, "1"), (0, (1,)), None, 0,
                    "01", (0, 10 ** 399), ((0, 1),)]:
            for ties in [(tie,), ((0, 1), tie), (tie, (0, 1)), ((0, 1),) * 7 + (tie,)]:
                self.check((3, ties), False)
        self.check((1, ((0, 1),)), False)
        self.check((1, ((0, 0),)), False)

    def test_kinds_within(self):
        for thing in [[3, ()], (3, []), (3, [(0, 1)]), (3, ([0, 1],)), (3, None), (3, 0), (3, ""), (3,), (3, (), ()),
                      ((), 3), (3, (0, 1)), ((3, ()),), None, (), [], "web"]:
            self.check(thing, False)

    def test_any_thing(self):
        for thing in odd_things():
            for told in [thing, (thing, ()), (3, thing), (3, (thing,)), (3, ((0, thing),)), (3, ((thing, 2),))]:
                self.assertIs(is_web(told), is_web_of(told))

    def test_each_spot_turned(self):
        source = random.Random(131)
        for count in range(30):
            web = chance_web(source)
            self.check(web, True)
            for thing in turned(web, ["web"]):
                self.assertIs(is_web(thing), is_web_of(thing), thing)

    def test_lists_handed_in_are_as_they_were(self):
        thing = [3, [[0, 1], (1, 2)]]
        kept = copy.deepcopy(thing)
        self.check(thing, False)
        self.assertEqual(thing, kept)


class WaysAndCuts(unittest.TestCase):
    def check(self, web, a, b):
        ways, cuts = ways_family(web, a, b), cuts_family(web, a, b)
        self.assertIs(is_family(ways) and is_family(cuts), True)
        self.assertEqual(ways, ways_of(web, a, b), (web, a, b))
        self.assertEqual(cuts, cuts_of(web, a, b), (web, a, b))
        self.assertEqual(other_family(ways), cuts)
        self.assertEqual(other_family(cuts), ways)
        return ways, cuts

    def test_written_out(self):
        self.assertEqual(self.check(RING, 0, 2), ((4, ((0, 1), (2, 3))), (4, ((0, 2), (0, 3), (1, 2), (1, 3)))))
        self.assertEqual(self.check(RING, 0, 1), ((4, ((0,), (1, 2, 3))), (4, ((0, 1), (0, 2), (0, 3)))))
        # Places are the ties by their numbers, whatever order they are in.
        self.assertEqual(self.check((3, ((1, 2), (0, 1))), 0, 2), ((2, ((0, 1),)), (2, ((0,), (1,)))))
        bridge = (4, ((0, 1), (0, 2), (1, 2), (1, 3), (2, 3)))
        self.assertEqual(self.check(bridge, 0, 3)[0], (5, ((0, 2, 4), (0, 3), (1, 2, 3), (1, 4))))
        self.assertEqual(self.check(bridge, 0, 3)[1], (5, ((0, 1), (0, 2, 4), (1, 2, 3), (3, 4))))

    def test_a_spot_and_itself(self):
        for web in [(1, ()), (2, ()), RING, (2, ((0, 1),) * 8)]:
            for spot in range(web[0]):
                n = len(web[1])
                self.assertEqual(self.check(web, spot, spot), ((n, ((),)), (n, ())))

    def test_two_that_nothing_joins(self):
        for web, a, b in [((2, ()), 0, 1), ((3, ((0, 1),)), 0, 2), ((4, ((0, 1), (2, 3))), 1, 2),
                          ((6, ((0, 1), (1, 2), (0, 2), (3, 4), (4, 5))), 5, 0)]:
            n = len(web[1])
            self.assertEqual(self.check(web, a, b), ((n, ()), (n, ((),))))

    def test_ties_that_are_alike(self):
        for many in range(1, 9):
            single = tuple((tie,) for tie in range(many))
            self.assertEqual(self.check((2, ((0, 1),) * many), 1, 0), ((many, single), (many, (tuple(range(many)),))))
        self.assertEqual(self.check((3, ((0, 1), (0, 1), (1, 2))), 0, 2), ((3, ((0, 2), (1, 2))), (3, ((0, 1), (2,)))))

    def test_all_webs_of_few_ties(self):
        for many in (1, 2, 3, 4):
            every = [(i, j) for j in range(many) for i in range(j)]
            for ties in [row for size in range(4) for row in combinations_with_replacement(every, size)]:
                for a in range(many):
                    for b in range(many):
                        self.check((many, ties), a, b)

    def test_webs_at_chance(self):
        source = random.Random(132)
        for count in range(60):
            web = chance_web(source)
            a, b = source.randrange(web[0]), source.randrange(web[0])
            self.assertEqual(self.check(web, a, b), self.check(web, b, a))
        for count in range(8):
            web = chance_web(source, 8)
            for a in range(web[0]):
                self.check(web, a, web[0] - 1)
