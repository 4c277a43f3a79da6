"""[2], [5], [35] to [38], [40]: the checker of DUAL papers, SETs that part, papers turned about."""

import copy
import random
import unittest

from rivalsets.dualchecker import does_part, lets_dual, turned_about
from rivalsets.dualing import dual_told
from rivalsets.errors import NoPaper
from tests.reference import (bits, chance_dual, dual_judged, every_family, large_families, layer, listed, nested,
                             odd_things, other_of, parts_two, said, small_families, subsets, turned, turned_at_chance)

WORDS = ["one", "other", "split", "One", ""]
ONE, OTHER = (3, ((0, 1), (1, 2))), (3, ((0, 2), (1,)))
# Split by 1, then by 0 and 2: what is TAKEN and LEFT OUT stands behind each part.
PAPER = ("split", 1,                                                 # 0: (), ()
         ("split", 0,                                                # 1: (1,), ()
          ("one", 0),                                                # 2: (0, 1), ()
          ("split", 2, ("one", 1), ("other", 0))),                   # 3: (1,), (0,); 4: (1, 2), (0,); 5: (1,), (0, 2)
         ("other", 1))                                               # 6: (), (1,)


def put_in(thing, way, part):
    """The thing with a part in it otherwise: way goes down to it, 2 for a first, 3 for a second."""
    if not way:
        return part
    return thing[:way[0]] + (put_in(thing[way[0]], way[1:], part),) + thing[way[0] + 1:]


class LetsDual(unittest.TestCase):
    def check(self, one, other, thing, due):
        self.assertEqual(dual_judged(one, other, thing), due)
        self.check_same(one, other, thing)

    def check_same(self, one, other, thing):
        told = said(NoPaper, lets_dual, one, other, thing)
        self.assertEqual(told, dual_judged(one, other, thing), (one, other, thing))

    def test_void_and_whole(self):
        for n in range(9):
            void, whole = (n, ()), (n, ((),))
            self.check(void, whole, ("other", 0), True)
            self.check(whole, void, ("one", 0), True)
            self.check(void, whole, ("one", 0), ("shape", 0))
            self.check(whole, void, ("other", 0), ("shape", 0))
            self.check(void, void, ("one", 0), ("shape", 0))
            self.check(whole, whole, ("one", 0), ("apart", 0))
            for place in range(n):
                self.check(void, whole, ("split", place, ("other", 0), ("other", 0)), True)
                self.check(whole, void, ("split", place, ("one", 0), ("one", 0)), True)
            self.check(void, whole, ("split", n, ("other", 0), ("other", 0)), ("shape", 0))

    def test_written_out(self):
        self.check(ONE, OTHER, PAPER, True)
        self.check(OTHER, ONE, PAPER, ("within", 2))
        self.check((1, ((0,),)), (1, ((0,),)), ("split", 0, ("one", 0), ("other", 0)), True)
        self.check((1, ((0,),)), (1, ((0,),)), ("split", 0, ("other", 0), ("one", 0)), ("within", 1))
        self.check((1, ((0,),)), (1, ((0,),)), ("one", 0), ("within", 0))
        self.check((1, ((0,),)), (1, ((0,),)), ("other", 0), ("within", 0))

    def test_a_fault_at_each_part_with_its_number(self):
        ways = [(), (2,), (2, 2), (2, 3), (2, 3, 2), (2, 3, 3), (3,)]
        for number, way in enumerate(ways):
            for thing in [None, True, 0, "one", [], (), ("one",), ("one", 2), ("other", 2), ("one", -1), ("one", True),
                          ("other", False), ["one", 0], ("one", 0, 0), ("split", 0, None), ("split", 3, None, None),
                          ("split", -1, None, None), ("split", True, None, None), ("split", None, None, None),
                          ["split", 0, None, None], ("splits", 0, None, None), ("one", 10 ** 399), ("one", "0")]:
                self.check(ONE, OTHER, put_in(PAPER, way, thing), ("shape", number))
        for number, way in [(2, (2, 2)), (3, (2, 3)), (4, (2, 3, 2)), (5, (2, 3, 3)), (6, (3,)), (1, (2,))]:
            self.check(ONE, OTHER, put_in(PAPER, way, ("split", 1, None, None)), ("place", number))
        for number, way in enumerate(ways):
            thing = ("one", 0) if number in (0, 1, 3, 4, 5, 6) else ("one", 1)
            self.check(ONE, OTHER, put_in(PAPER, way, thing), ("within", number))

    def test_a_place_split_again(self):
        again = ("split", 0, ("one", 0), ("other", 0))
        one = other = (2, ((0,),))
        self.check(one, other, ("split", 0, again, ("other", 0)), ("place", 1))
        self.check(one, other, ("split", 0, ("one", 0), again), ("place", 2))
        self.check(one, other, ("split", 1, again, again), True)
        self.check(one, other, ("split", 1, again, ("split", 1, None, None)), ("place", 4))
        self.check(one, other, ("split", 0, ("split", 1, again, ("one", 0)), ("other", 0)), ("place", 2))
        self.check(one, other, ("split", 0, ("split", 0, None, None), None), ("place", 1))

    def test_first_and_second_any_thing(self):
        for thing in odd_things():
            self.check(ONE, OTHER, thing, ("shape", 0))
            self.check(ONE, OTHER, ("split", 0, thing, thing), ("shape", 1))
            self.check(ONE, OTHER, put_in(PAPER, (3,), thing), ("shape", 6))
            # Of the whole numbers 0 and 1 can stand: then it is PAPER that splits by them again.
            number = {0: 2, 1: 1}.get(thing) if type(thing) is int else None
            self.check(ONE, OTHER, ("split", thing, PAPER, PAPER), ("place", number) if number else ("shape", 0))
            self.check(ONE, OTHER, (thing, 0), ("shape", 0))
            self.check(ONE, OTHER, (thing, 0, PAPER, PAPER), ("shape", 0))
        for thing in [nested(60), listed(60), ("split", 0, nested(60), listed(60))]:
            self.check_same(ONE, OTHER, thing)

    def test_two_faults_the_first_one_goes(self):
        self.check(ONE, OTHER, put_in(put_in(PAPER, (2, 2), ("one", 1)), (3,), None), ("within", 2))
        self.check(ONE, OTHER, put_in(put_in(PAPER, (2, 2), None), (3,), ("other", 0)), ("shape", 2))
        self.check(ONE, OTHER, ("split", 0, ("split", 0, 0, 0), ("one", 9)), ("place", 1))
        self.check(ONE, OTHER, ("split", 0, ("one", 0), ("one", 9)), ("within", 1))
        self.check(ONE, OTHER, ("split", 0, ("one", 9), ("split", 0, 0, 0)), ("shape", 1))
        # A second is behind all of a first, however deep.
        self.check(ONE, OTHER, put_in(put_in(PAPER, (2, 3, 3), None), (3,), None), ("shape", 5))

    def test_apart_goes_ahead_of_all(self):
        one, other = (3, ((0, 1), (2,))), (3, ((0, 2), (1,)))
        self.check(one, other, PAPER, ("apart", 1))
        for thing in odd_things() + [("one", 0), ("split", 0, ("split", 0, 0, 0), None), [], ()]:
            self.check(one, other, thing, ("apart", 1))
        self.check((3, ((0,), (1,), (2,))), (3, ((0, 1),)), None, ("apart", 2))
        self.check((3, ((0, 1),)), (3, ((0,), (2,))), None, ("apart", 0))
        self.check((2, ()), (2, ((0,),)), None, ("shape", 0))

    def test_by_chance_in_any_order_of_places(self):
        source = random.Random(37)
        for family in small_families() + large_families():
            other = other_of(family)
            for count in range(3):
                self.check(family, other, chance_dual(source, family, other), True)

    def test_each_spot_turned(self):
        source = random.Random(38)
        families = [family for n in range(4) for family in every_family(n)] + source.sample(every_family(4), 20)
        for family in families:
            other = other_of(family)
            paper = chance_dual(source, family, other)
            for thing in turned(paper, WORDS):
                self.check_same(family, other, thing)

    def test_two_spots_turned_in_great_ones(self):
        source = random.Random(39)
        for family in large_families():
            other = other_of(family)
            paper = chance_dual(source, family, other)
            for count in range(15):
                thing = turned_at_chance(source, paper, WORDS)
                self.check_same(family, other, thing)
                self.check_same(family, other, turned_at_chance(source, thing, WORDS))

    def test_families_that_are_not_each_others(self):
        """Whoever wrote it: nothing is let by for two that are not each other's."""
        source = random.Random(40)
        for n in range(4):
            for one in every_family(n):
                for other in every_family(n):
                    for paper in [chance_dual(source, one, other_of(one)), chance_dual(source, other_of(other), other)]:
                        told = said(NoPaper, lets_dual, one, other, paper)
                        self.assertEqual(told, dual_judged(one, other, paper))
                        self.assertIs(told is True, other == other_of(one))

    def test_eight_places_and_seventy_members(self):
        source = random.Random(41)
        for one, other in [(layer(8, 4), layer(8, 5)), (layer(8, 5), layer(8, 4)), (layer(8, 8), layer(8, 1))]:
            self.check(one, other, chance_dual(source, one, other), True)
            self.check(one, other, dual_told(one, other)[1], True)

    def test_lists_handed_in_are_as_they_were(self):
        thing = ("split", 0, ("split", 1, ("one", 0), ["one", [0]]), [("other", 1)])
        kept = copy.deepcopy(thing)
        self.check(ONE, OTHER, thing, ("shape", 3))
        self.assertEqual(thing, kept)


class DoesPart(unittest.TestCase):
    def test_by_counting(self):
        for n in range(4):
            for one in every_family(n):
                for other in every_family(n):
                    for some in subsets(n):
                        self.assertIs(does_part(one, other, some), parts_two(one, other, bits(some)))

    def test_each_others_are_parted_by_none(self):
        for family in small_families() + large_families():
            other = other_of(family)
            for some in subsets(family[0]):
                self.assertIs(does_part(family, other, some), False)

    def test_just_those_that_are_not_each_others_are_parted(self):
        for n in range(4):
            for one in every_family(n):
                for other in every_family(n):
                    parted = any(does_part(one, other, some) for some in subsets(n))
                    self.assertIs(parted, other != other_of(one))

    def test_no_places_and_all_places(self):
        for n in range(9):
            every = tuple(range(n))
            for some in ((), every):
                self.assertIs(does_part((n, ()), (n, ()), some), True)
                self.assertIs(does_part((n, ((),)), (n, ((),)), some), True)
                self.assertIs(does_part((n, ()), (n, ((),)), some), False)
                self.assertIs(does_part((n, ((),)), (n, ()), some), False)
        self.assertIs(does_part((2, ((0,),)), (2, ()), ()), True)
        self.assertIs(does_part((2, ((0,),)), (2, ()), (0, 1)), False)
        self.assertIs(does_part((2, ()), (2, ((0,),)), (0, 1)), True)


class TurnedAbout(unittest.TestCase):
    def test_written_out(self):
        due = ("split", 1, ("one", 1), ("split", 0, ("split", 2, ("one", 0), ("other", 1)), ("other", 0)))
        self.assertEqual(turned_about(PAPER), due)
        self.assertEqual(turned_about(("one", 5)), ("other", 5))
        self.assertEqual(turned_about(("other", 0)), ("one", 0))

    def test_let_by_for_the_two_exchanged_and_back_again(self):
        source = random.Random(42)
        for family in small_families() + large_families():
            other = other_of(family)
            for paper in (chance_dual(source, family, other), dual_told(family, other)[1]):
                told = turned_about(paper)
                self.assertIs(type(told), tuple)
                self.assertIs(dual_judged(other, family, told), True)
                self.assertIs(lets_dual(other, family, told), True)
                self.assertEqual(turned_about(told), paper)
