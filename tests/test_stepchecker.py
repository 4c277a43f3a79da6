"""[2], [25] to [28]: deeds, what a family becomes, and the checker of STEPS."""

import random
import unittest
from itertools import product

from rivalsets.errors import NoSteps
from rivalsets.families import does_hold, is_family
from rivalsets.stepchecker import becomes, is_deed, lets_steps
from rivalsets.stepping import steps_for
from tests.reference import (all_deeds, became, every_family, judged, large_families, layer, odd_things, other_of, said,
                             small_families, subsets, turned)

WORDS = ["stays", "grows", "less", "goes", "new", "has", "held", "put", ""]


def answer(one, other, deed, thing):
    """True, or the word and number of the refusal, of just its class."""
    return said(NoSteps, lets_steps, one, other, deed, thing)


def turned_steps(steps):
    return turned(steps, WORDS)


class IsDeed(unittest.TestCase):
    def test_all_deeds(self):
        for n in range(9):
            for deed in all_deeds(8):
                word, what = deed
                fits = all(place < n for place in what) if word == "put" else what < n
                self.assertIs(is_deed(n, deed), fits, deed)
                self.assertIs(is_deed(n, list(deed)), False)
                self.assertIs(is_deed(n, deed + (0,)), False)
                self.assertIs(is_deed(n, deed[:1]), False)

    def test_truths_are_no_places(self):
        for thing in [("put", (True,)), ("put", (False, 1)), ("put", (0, True)), ("without", True), ("without", False),
                      ("keep", True), ("keep", False), ("put", True)]:
            for n in range(9):
                self.assertIs(is_deed(n, thing), False, thing)

    def test_edges(self):
        self.assertIs(is_deed(0, ("put", ())), True)
        self.assertIs(is_deed(0, ("keep", 0)), False)
        self.assertIs(is_deed(0, ("without", 0)), False)
        self.assertIs(is_deed(3, ("without", 3)), False)
        self.assertIs(is_deed(3, ("without", -1)), False)
        self.assertIs(is_deed(3, ("keep", (0,))), False)
        self.assertIs(is_deed(3, ("without", ())), False)
        self.assertIs(is_deed(3, ("put", 0)), False)
        self.assertIs(is_deed(3, ("put", [0])), False)
        self.assertIs(is_deed(3, ("put", (1, 0))), False)
        self.assertIs(is_deed(3, ("put", (0, 3))), False)
        self.assertIs(is_deed(3, ("kept", 0)), False)
        self.assertIs(is_deed(3, ("Put", (0,))), False)
        self.assertIs(is_deed(3, (0, "keep")), False)

    def test_any_other_thing(self):
        for n in range(9):
            for thing in odd_things() + [()]:
                self.assertIs(is_deed(n, thing), False, thing)
                self.assertIs(is_deed(n, (thing, 0)), False, thing)
                self.assertIs(is_deed(n, ("put", thing)), thing == () and type(thing) is tuple, thing)
                fits = type(thing) is int and 0 <= thing < n
                self.assertIs(is_deed(n, ("keep", thing)), fits, thing)
                self.assertIs(is_deed(n, ("without", thing)), fits, thing)


class Becomes(unittest.TestCase):
    def test_by_counting(self):
        for family in small_families() + large_families():
            for deed in all_deeds(family[0]):
                told = becomes(family, deed)
                self.assertEqual(told, became(family, deed), (family, deed))
                self.assertIs(is_family(told), True)

    def test_a_put_of_a_set_that_holds_turns_nothing(self):
        for family in small_families():
            for some in subsets(family[0]):
                if does_hold(family, some):
                    self.assertEqual(becomes(family, ("put", some)), family)
                else:
                    self.assertIn(some, becomes(family, ("put", some))[1])

    def test_written_out(self):
        family = (4, ((0, 1, 2), (0, 3), (1, 2, 3)))
        self.assertEqual(becomes(family, ("put", (1, 2))), (4, ((0, 3), (1, 2))))
        self.assertEqual(becomes(family, ("put", ())), (4, ((),)))
        self.assertEqual(becomes(family, ("put", (0, 1, 3))), family)
        self.assertEqual(becomes(family, ("without", 0)), (4, ((1, 2, 3),)))
        self.assertEqual(becomes(family, ("keep", 0)), (4, ((1, 2), (3,))))


class LetsSteps(unittest.TestCase):
    one = (3, ((0, 1), (1, 2)))
    other = (3, ((0, 2), (1,)))

    def check(self, one, other, deed, thing, due):
        self.assertEqual(judged(one, other, deed, thing), due)
        self.check_same(one, other, deed, thing)

    def check_same(self, one, other, deed, thing):
        told, due = answer(one, other, deed, thing), judged(one, other, deed, thing)
        self.assertEqual(told, due, (one, other, deed, thing))
        self.assertIs(told is True, due is True)

    def test_put_written_out(self):
        # The member (1,) and the place 0 together: (1, 2) has just 1 of these, and none of other's is within them.
        put = ("put", (0,))
        grown = ("grows", (("has", 0),))
        self.check(self.one, self.other, put, (("stays",), grown), ("wrong", 1))
        self.check(self.one, self.other, put, (("stays",), ("grows", (("new", (0,)),))), ("wrong", 1))
        self.check(self.one, self.other, put, (("stays",), ("grows", (("new", (1,)),))), True)
        self.check(self.one, self.other, put, (("stays",), ("grows", (("has", 1),))), ("wrong", 1))
        self.check(self.one, self.other, put, (("stays",), ("grows", (("has", 2),))), ("shape", 1))
        self.check(self.one, self.other, put, (("stays",), ("stays",)), ("wrong", 1))
        self.check(self.one, self.other, put, (grown, grown), ("wrong", 0))
        self.check(self.one, self.other, put, (("stays",), ("grows", ())), ("shape", 1))
        self.check(self.one, self.other, put, (("stays",), ("less",)), ("shape", 1))

    def test_has_written_out(self):
        one, other = (3, ((0, 1), (1, 2))), (3, ((0, 2), (1,)))
        put = ("put", (1,))
        self.check(one, other, put, (("grows", (("has", 1),)), ("stays",)), True)
        self.check(one, other, put, (("grows", (("has", 0),)), ("stays",)), ("wrong", 0))
        self.check(one, other, put, (("grows", (("new", (0, 1)),)), ("stays",)), ("wrong", 0))
        self.check(one, other, put, (("grows", (("new", (0,)),)), ("stays",)), ("shape", 0))
        self.check(one, other, put, (("grows", (("new", (0, 2)),)), ("stays",)), ("shape", 0))
        self.check(one, other, put, (("grows", (("new", (0, True)),)), ("stays",)), ("shape", 0))
        self.check(one, other, put, (("grows", (("new", [0, 1]),)), ("stays",)), ("shape", 0))
        self.check(one, other, put, (("grows", [("has", 1)]), ("stays",)), ("shape", 0))
        self.check(one, other, put, (("grows", (["has", 1],)), ("stays",)), ("shape", 0))
        self.check(one, other, put, (["grows", (("has", 1),)], ("stays",)), ("shape", 0))
        self.check(one, other, put, [("grows", (("has", 1),)), ("stays",)], ("shape", -1))

    def test_without_written_out(self):
        out = ("without", 0)
        self.check(self.one, self.other, out, (("less",), ("stays", (1,))), True)
        self.check(self.one, self.other, out, (("less",), ("stays", (0,))), ("wrong", 1))
        self.check(self.one, self.other, out, (("less",), ("goes", 0)), ("wrong", 1))
        self.check(self.one, self.other, out, (("less",), ("less",)), ("wrong", 1))
        self.check(self.one, self.other, out, (("stays", (0, 1)), ("stays", (1,))), ("wrong", 0))
        self.check(self.one, self.other, out, (("goes", 0), ("stays", (1,))), ("wrong", 0))
        self.check(self.one, self.other, ("without", 1), (("goes", 1), ("less",)), True)
        self.check(self.one, self.other, ("without", 1), (("goes", 0), ("less",)), ("wrong", 0))
        self.check(self.one, self.other, ("without", 1), (("goes", 2), ("less",)), ("shape", 0))
        self.check(self.one, self.other, ("without", 1), (("goes", True), ("less",)), ("shape", 0))
        self.check(self.one, self.other, ("without", 1), (("stays", (0, 1)), ("less",)), ("wrong", 0))

    def test_keep_written_out(self):
        keep = ("keep", 0)
        self.check(self.one, self.other, keep, (("goes",), ("stays",)), True)
        self.check(self.one, self.other, keep, (("stays",), ("stays",)), ("wrong", 0))
        self.check(self.one, self.other, keep, (("goes",), ("goes",)), ("wrong", 1))
        self.check(self.one, self.other, keep, (("goes", 0), ("stays",)), ("shape", 0))
        self.check(self.one, self.other, keep, (("goes",), ("stays", (0,))), ("shape", 1))
        self.check(self.one, self.other, keep, (("less",), ("stays",)), ("shape", 0))

    def test_held_with_each_number(self):
        put = ("put", (0, 1))
        self.check(self.one, self.other, put, ("held", 0), True)
        self.check(self.one, self.other, put, ("held", 1), ("wrong", -1))
        # Of two members a held that is out of bounds is looked at as two ENTRIES.
        for thing in (2, -1, True, False, None, "0", (0,), 10 ** 399):
            self.check(self.one, self.other, put, ("held", thing), ("shape", 0))
        three, covers = (3, ((0, 1, 2),)), (3, ((0,), (1,), (2,)))
        self.check(three, covers, put, ("held", 0), ("wrong", -1))
        for thing in (1, -1, True, False, None):
            self.check(three, covers, put, ("held", thing), ("shape", -1))
        for thing in [("held",), ("held", 0, 0), ["held", 0], ("hold", 0)]:
            self.check(three, covers, put, thing, ("shape", -1) if len(thing) != 3 else ("shape", 0))

    def test_held_only_of_a_put(self):
        for deed in [("keep", 0), ("without", 0)]:
            self.check(self.one, self.other, deed, ("held", 0), ("shape", 0))
            self.check((3, ((0, 1, 2),)), (3, ((0,), (1,), (2,))), deed, ("held", 0), ("shape", -1))

    def test_held_for_all_small_families(self):
        for family in small_families():
            other = other_of(family)
            for some in subsets(family[0]):
                for number in [*range(-1, len(family[1]) + 2), True, False]:
                    self.check_same(family, other, ("put", some), ("held", number))

    def test_void_and_whole(self):
        for n in range(4):
            for deed in all_deeds(n):
                self.check((n, ((),)), (n, ()), deed, (), True)
                self.check((n, ((),)), (n, ()), deed, (("stays",),), ("shape", -1))
                self.check((n, ()), (n, ((),)), deed, (), ("shape", -1))
            for some in subsets(n):
                rows = tuple(("new", ()) for place in some)
                self.check((n, ()), (n, ((),)), ("put", some), (("grows", rows),), True)
                self.check((n, ()), (n, ((),)), ("put", some), (("stays",),), ("wrong", 0))
                self.check((n, ((),)), (n, ()), ("put", some), ("held", 0), True)
                self.check((n, ()), (n, ((),)), ("put", some), ("held", 0), ("shape", -1))
            for place in range(n):
                self.check((n, ()), (n, ((),)), ("without", place), (("stays", ()),), True)
                self.check((n, ()), (n, ((),)), ("keep", place), (("stays",),), True)
                self.check((n, ()), (n, ((),)), ("without", place), (("less",),), ("wrong", 0))

    def test_the_first_fault_goes(self):
        put = ("put", (0,))
        grown = ("grows", (("has", 0),))
        self.check(self.one, self.other, put, (grown, None), ("wrong", 0))
        self.check(self.one, self.other, put, (None, ("stays",)), ("shape", 0))
        self.check(self.one, self.other, put, (("stays",), None), ("shape", 1))
        self.check(self.one, self.other, put, (("stays", 0), ("stays",)), ("shape", 0))
        self.check(self.one, self.other, put, (grown, grown, None), ("shape", -1))
        # A member that meets what is put, and a row of no right form: the form goes first.
        self.check(self.one, self.other, put, (("grows", (("has", 9),)), ("stays",)), ("shape", 0))
        both = ("put", (0, 2))
        self.check(self.one, self.other, both, (("stays",), ("grows", (("has", 1), ("has", 2)))), ("shape", 1))
        self.check(self.one, self.other, both, (("stays",), ("grows", (("has", 1), ("has", 0)))), ("wrong", 1))
        self.check(self.one, self.other, both, (("stays",), ("grows", (("new", (1,)), ("has", 0)))), ("wrong", 1))
        self.check(self.one, self.other, both, (("stays",), ("grows", (("new", (1,)), ("new", (0,))))), True)

    def test_each_spot_turned(self):
        source = random.Random(28)
        families = [family for n in range(4) for family in every_family(n)] + source.sample(every_family(4), 12)
        for family in families:
            other = other_of(family)
            for deed in all_deeds(family[0]):
                steps = steps_for(family, other, deed)
                self.check(family, other, deed, steps, True)
                for thing in turned_steps(steps):
                    self.check_same(family, other, deed, thing)

    def test_two_spots_turned(self):
        source = random.Random(29)
        for family in source.sample(every_family(4), 60):
            other = other_of(family)
            for deed in source.sample(all_deeds(4), 4):
                steps = steps_for(family, other, deed)
                for count in range(20):
                    thing = source.choice(turned_steps(steps))
                    thing = source.choice(turned_steps(thing)) if type(thing) is tuple else thing
                    self.check_same(family, other, deed, thing)

    def test_families_that_are_not_each_others(self):
        source = random.Random(30)
        for count in range(300):
            n = source.randrange(5)
            one, other, third = [source.choice(every_family(n)) for number in range(3)]
            deed = source.choice(all_deeds(n))
            for steps in (steps_for(third, other_of(third), deed), steps_for(one, other_of(one), deed)):
                self.check_same(one, other, deed, steps)
                for thing in source.sample(turned_steps(steps), 5):
                    self.check_same(one, other, deed, thing)

    def test_all_entries_of_two_families(self):
        """Each thing with the form of STEPS, and some with not quite it, for families of few members."""
        pairs = [((2, ((0,),)), (2, ((0,),))), ((2, ((0,), (1,))), (2, ((0, 1),))), ((3, ((0, 1),)), (3, ((0,), (1,)))),
                 ((2, ((0, 1),)), (2, ((0, 1),))), ((3, ((0, 1), (1, 2))), (3, ((1,),))), ((2, ()), (2, ((0,),)))]
        for one, other in pairs:
            numbers = range(-1, len(one[1]) + 1)
            told = range(-1, len(other[1]) + 1)
            for deed in all_deeds(one[0]):
                rows = [("has", k) for k in told]
                tuples = [row for many in range(3) for row in product(numbers, repeat=many)]
                rows += [("new", row) for row in tuples]
                many = len(deed[1]) if deed[0] == "put" else 0
                entries = [("stays",), ("less",), ("goes",), ("stays", 0), ("goes", ())]
                entries += [("stays", row) for row in tuples] + [("goes", k) for k in told]
                entries += [("grows", row) for row in product(rows, repeat=min(many, 2))]
                first = entries if len(other[1]) == 1 else entries[::7]
                for thing in product(first, repeat=len(other[1])):
                    self.check_same(one, other, deed, thing)

    def test_any_thing(self):
        for family in [self.one, (2, ()), (2, ((),)), (3, ((0, 1, 2),)), layer(8, 4)]:
            other = other_of(family)
            for deed in [("put", (0,)), ("put", ()), ("put", (0, 1)), ("without", 1), ("keep", 1)]:
                for thing in odd_things() + [()]:
                    self.check_same(family, other, deed, thing)
                    self.check_same(family, other, deed, (thing,) * len(other[1]))
                    self.check_same(family, other, deed, (("stays",),) * (len(other[1]) - 1) + (thing,))

    def test_eight_places_and_seventy_members(self):
        source = random.Random(31)
        for one, other in [(layer(8, 5), layer(8, 4)), (layer(8, 4), layer(8, 5))]:
            for deed in [("put", (0, 1, 2, 3)), ("put", (4, 5, 6)), ("put", ()), ("without", 7), ("keep", 7)]:
                steps = steps_for(one, other, deed)
                self.check(one, other, deed, steps, True)
                for thing in source.sample(turned_steps(steps), 60):
                    self.check_same(one, other, deed, thing)
