"""[2], [5], [53], [54]: the checker of PAIRs."""

import copy
import random
import unittest

from rivalsets.errors import NoPaper
from rivalsets.pairchecker import lets_pair
from rivalsets.pairing import pair_told
from tests.reference import (chance_weights, greatest_size, large_families, layer, least_price, listed, nested,
                             odd_things, pair_judged, round_of, said, small_families, small_weights, subsets, turned,
                             turned_at_chance)

WORDS = ["pair", "apart", "Pair", ""]
FAMILY = (4, ((0, 1), (0, 2), (1, 2, 3)))
WEIGHTS = (2, 1, 2, 9)
PACK = (((0, 1), 1), ((0, 2), 1))
MORE = (((0, 1), 1), ((0, 2), 1), ((1, 2, 3), 1))
PAIR = ("pair", (0, 1), (((0, 2), 2), ((1, 2, 3), 1)))


class LetsPair(unittest.TestCase):
    def check(self, family, weights, thing, due):
        self.assertEqual(pair_judged(family, weights, thing), due)
        self.check_same(family, weights, thing)

    def check_same(self, family, weights, thing):
        told = said(NoPaper, lets_pair, family, weights, thing)
        self.assertEqual(told, pair_judged(family, weights, thing), (family, weights, thing))

    def test_written_out(self):
        self.check(FAMILY, (2, 1, 3, 9), PAIR, True)
        self.check((4, ((0, 1), (2, 3))), (1, 2, 3, 4), ("pair", (0, 2), (((0, 1), 1), ((2, 3), 3))), True)
        self.check((4, ((0, 1), (2, 3))), (0, 2, 3, 4), ("pair", (0, 2), (((2, 3), 3),)), True)
        self.check((2, ((0, 1),)), (0, 0), ("pair", (0, 1), ()), True)
        self.check((2, ((0, 1),)), (99, 99), ("pair", (1,), (((0, 1), 99),)), True)
        self.check((2, ((0,), (1,))), (99, 98), ("pair", (0, 1), (((0,), 99), ((1,), 98))), True)

    def test_void(self):
        for n in range(9):
            self.check((n, ()), (3,) * n, ("pair", (), ()), True)
            for thing in [("pair", (), ((),)), ("pair", (), (((), 1),)), ("pair", (), (None,))]:
                self.check((n, ()), (3,) * n, thing, ("entry", 0))
            self.check((n, ()), (0,) * n, ("pair", tuple(range(n)), ()), True)
            if n:
                self.check((n, ()), (3,) * n, ("pair", (0,), ()), ("size", 0))

    def test_of_whole_nothing_is_let_by(self):
        for n in range(9):
            for some in subsets(n):
                for pack in [(), (((), 1),), (((), 0),), (None,)]:
                    self.check((n, ((),)), (1,) * n, ("pair", some, pack), ("member", 0))
            self.check((n, ((),)), (0,) * n, ("pair", (n,), ()), ("shape", 0))

    def test_shape(self):
        right = PAIR
        for thing in [None, True, 1, "pair", (), [], ("pair",), right[:2], right + (0,), list(right), right[::-1],
                      ("Pair",) + right[1:], ("",) + right[1:], (("pair",),) + right[1:], (["pair"],) + right[1:],
                      ("pair", [0, 1], right[2]), ("pair", (1, 0), right[2]), ("pair", (0, 0, 1), right[2]),
                      ("pair", (0, 4), right[2]), ("pair", (-1, 0), right[2]), ("pair", (False, 1), right[2]),
                      ("pair", (0, True), right[2]), ("pair", None, right[2]), ("pair", 0, right[2]),
                      ("pair", (0, 1), list(right[2])), ("pair", (0, 1), None), ("pair", (0, 1), "")]:
            self.check(FAMILY, (2, 1, 3, 9), thing, ("shape", 0))

    def test_member(self):
        for some, number in [((), 0), ((0,), 2), ((1,), 1), ((2,), 0), ((3,), 0), ((1, 3), 1), ((2, 3), 0)]:
            for pack in [(), PAIR[2], (None,)]:
                self.check(FAMILY, WEIGHTS, ("pair", some, pack), ("member", number))

    def test_entry(self):
        for entry in [None, (), [], ((0, 1),), ((0, 1), 1, 1), [(0, 1), 1], ([0, 1], 1), ((0, 1), 0), ((0, 1), -1),
                      ((0, 1), True), ((0, 1), False), ((0, 1), None), ((0, 1), "1"), ((0, 1), (1,)), ((False, 1), 1),
                      ((0, True), 1), ((1, 0), 1), ((0, 3), 1), ((), 1), (None, 1), (1, (0, 1)), ((0, 1, 2), 1)]:
            self.check(FAMILY, WEIGHTS, ("pair", (0, 1), (entry,)), ("entry", 0))
            self.check(FAMILY, WEIGHTS, ("pair", (0, 1), (entry, entry)), ("entry", 0))
            self.check(FAMILY, WEIGHTS, ("pair", (0, 1), PACK[:1] + (entry,)), ("entry", 1))
            self.check(FAMILY, WEIGHTS, ("pair", (0, 1), PACK + (entry,)), ("entry", 2))
            # Its place among the others does not matter where its kind is wrong.
            self.check(FAMILY, WEIGHTS, ("pair", (0, 1), (((1, 2, 3), 1), entry)), ("entry", 1))
        for pack, number in [(PACK[::-1], 1), (PACK[:1] * 2, 1), (PACK + PACK[:1], 2), (PACK + PACK[1:], 2),
                             (MORE[2:] + PACK, 1), ((MORE[0], MORE[2], MORE[1]), 2)]:
            self.check(FAMILY, WEIGHTS, ("pair", (0, 1), pack), ("entry", number))

    def test_place(self):
        for weights, place in [((1, 9, 9, 9), 0), ((9, 1, 9, 9), 1), ((9, 9, 1, 9), 2), ((9, 9, 9, 0), 3),
                               ((9, 1, 1, 0), 1), ((0, 0, 0, 0), 0), ((9, 9, 0, 0), 2)]:
            self.check(FAMILY, weights, ("pair", (0, 1), MORE), ("place", place))
        self.check(FAMILY, (99,) * 4, ("pair", (0, 1), (((0, 1), 10 ** 399),)), ("place", 0))
        self.check(FAMILY, (99,) * 4, ("pair", (0, 1), (((0, 1), 100),)), ("place", 0))

    def test_size(self):
        self.check(FAMILY, (2, 2, 2, 9), ("pair", (0, 1), MORE), ("size", 0))
        self.check(FAMILY, (2, 1, 3, 9), ("pair", (0, 1), PAIR[2][:1]), ("size", 0))
        self.check(FAMILY, (2, 1, 3, 9), ("pair", (0, 1), ()), ("size", 0))
        self.check(FAMILY, (2, 1, 3, 9), ("pair", (0, 1, 3), PAIR[2]), ("size", 0))
        self.check(FAMILY, (0, 0, 0, 0), ("pair", (0, 1), ()), True)

    def test_two_faults_the_first_one_goes(self):
        self.check(FAMILY, WEIGHTS, ("pair", (0,), [None]), ("shape", 0))
        self.check(FAMILY, WEIGHTS, ("pair", (0,), (None,)), ("member", 2))
        self.check(FAMILY, WEIGHTS, ("pair", (0,), (((0, 1), 99),)), ("member", 2))
        # A place is too full by the first entry already: the second entry's fault goes.
        self.check(FAMILY, WEIGHTS, ("pair", (0, 1), (((0, 1), 99), None)), ("entry", 1))
        self.check(FAMILY, WEIGHTS, ("pair", (0, 1), (((0, 1), 99), ((0, 1), 1), None)), ("entry", 1))
        self.check(FAMILY, WEIGHTS, ("pair", (0, 1), (((0, 1), 4),)), ("place", 0))
        self.check(FAMILY, (9, 9, 1, 9), ("pair", (0, 1), (((0, 2), 18),)), ("place", 0))
        self.check(FAMILY, (9, 9, 1, 9), ("pair", (0, 1), (((0, 2), 2),)), ("place", 2))

    def test_any_thing(self):
        for family in [FAMILY, (2, ()), (2, ((),)), (0, ()), (0, ((),)), layer(8, 4)]:
            weights = (1,) * family[0]
            every = tuple(range(family[0]))
            for thing in odd_things() + [()]:
                for told in [thing, ("pair", thing, ()), ("pair", every, thing), ("pair", every, (thing,)),
                             (thing, every, ()), ("pair", every, ((thing, 1),)), ("pair", every, (((0, 1), thing),))]:
                    self.check_same(family, weights, told)
            for thing in [nested(60), listed(60), ("pair", every, ((nested(50), 1),))]:
                self.check_same(family, weights, thing)

    def test_each_spot_turned(self):
        source = random.Random(66)
        for family in small_families()[::4] + large_families():
            weights = small_weights(source, family[0])
            paper = pair_told(family, weights)
            if paper is None:
                continue
            paper = ("pair",) + paper[1:]
            self.check_same(family, weights, paper)
            things = turned(paper, WORDS)
            for thing in source.sample(things, min(len(things), 120)):
                self.check_same(family, weights, thing)
                self.check_same(family, weights, turned_at_chance(source, thing, WORDS) if thing else thing)
                self.check_same(family, chance_weights(source, family[0]), thing)

    def test_let_by_it_is_a_greatest_pack_and_a_cheapest_meeter(self):
        """Whoever wrote it: where it is let by, there is no cheaper MEETER and no greater PACK."""
        source = random.Random(67)
        let = 0
        for count in range(4000):
            family = source.choice(small_families())
            weights = small_weights(source, family[0], 5)
            meeter = source.choice(subsets(family[0]))
            pack = tuple((member, source.randrange(1, 4)) for member in family[1] if not source.randrange(3))
            if said(NoPaper, lets_pair, family, weights, ("pair", meeter, pack)) is True:
                size = sum(count for member, count in pack)
                self.assertEqual(least_price(family, weights), size)
                self.assertEqual(greatest_size(family, weights), size)
                let += 1
        self.assertGreater(let, 50)

    def test_a_round_has_none(self):
        for meeter in subsets(3):
            for pack in [(), (((0, 1), 1),), (((0, 2), 1),), (((1, 2), 1),), (((0, 1), 1), ((1, 2), 1))]:
                self.assertIsNot(said(NoPaper, lets_pair, round_of(3), (1, 1, 1), ("pair", meeter, pack)), True)

    def test_lists_handed_in_are_as_they_were(self):
        thing = ("pair", (0, 1), (((0, 1), 1), [(0, 2), [1]]))
        kept = copy.deepcopy(thing)
        self.check(FAMILY, WEIGHTS, thing, ("entry", 1))
        self.assertEqual(thing, kept)
