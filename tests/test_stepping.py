"""[5], [29], [30]: own STEPS, and what stands BEHIND STEPS."""

import random
import unittest
from itertools import product

from rivalsets.families import does_hold, is_family
from rivalsets.stepchecker import lets_steps
from rivalsets.stepping import behind_steps, steps_for
from tests.reference import (all_deeds, became, entry_fits, entry_is_so, every_family, judged, large_families, layer,
                             other_of, small_families)


def all_rows(one, other, own):
    return ([("new", row) for row in product(range(len(one[1])), repeat=len(own))]
            + [("has", k) for k in range(len(other[1]))])


def right_entries(one, other, deed, own):
    """All ENTRIES of a member that say what is so."""
    entries = [("stays",), ("less",), ("goes",)]
    if deed[0] == "put":
        entries += [("grows", rows) for rows in product(all_rows(one, other, own), repeat=len(deed[1]))]
    if deed[0] == "without":
        entries += [("stays" if row[0] == "new" else "goes", row[1]) for row in all_rows(one, other, own)]
    return [entry for entry in entries
            if entry_fits(one, other, deed, own, entry) and entry_is_so(one, other, deed, own, entry)]


class OwnSteps(unittest.TestCase):
    def check(self, family, deed):
        other = other_of(family)
        steps = steps_for(family, other, deed)
        self.assertIs(type(steps), tuple)
        self.assertIs(judged(family, other, deed, steps), True, (family, deed, steps))
        self.assertIs(lets_steps(family, other, deed, steps), True)
        told = behind_steps(family, other, deed, steps)
        due = became(family, deed)
        self.assertEqual(told, (due, other_of(due)), (family, deed))
        self.assertIs(type(told), tuple)
        self.assertIs(is_family(told[0]), True)
        self.assertIs(is_family(told[1]), True)

    def test_all_small_families(self):
        for family in small_families():
            for deed in all_deeds(family[0]):
                self.check(family, deed)

    def test_large_families(self):
        source = random.Random(32)
        for family in large_families():
            for deed in source.sample(all_deeds(family[0]), 8):
                self.check(family, deed)

    def test_seventy_members(self):
        for family in (layer(8, 4), layer(8, 5)):
            for deed in [("put", ()), ("put", (2, 3, 5)), ("put", (0, 1, 2, 3)), ("put", (0, 1, 2, 3, 4, 5)),
                         ("put", tuple(range(8))), ("without", 0), ("without", 7), ("keep", 0), ("keep", 7)]:
                self.check(family, deed)


class Behind(unittest.TestCase):
    def test_whoever_wrote_them(self):
        """Any STEPS that are let by lead from two that are each other's to two such."""
        source = random.Random(33)
        families = [family for n in range(4) for family in every_family(n)] + source.sample(every_family(4), 20)
        for family in families:
            other = other_of(family)
            for deed in all_deeds(family[0]):
                if deed[0] == "put" and len(deed[1]) > 2:
                    continue
                due = became(family, deed)
                entries = [right_entries(family, other, deed, own) for own in other[1]]
                for count in range(4):
                    steps = tuple(source.choice(row) for row in entries)
                    self.assertIs(lets_steps(family, other, deed, steps), True)
                    self.assertEqual(behind_steps(family, other, deed, steps), (due, other_of(due)))

    def test_held_and_stays_where_the_set_holds(self):
        for family in small_families():
            other = other_of(family)
            for deed in all_deeds(family[0]):
                if deed[0] != "put" or not does_hold(family, deed[1]):
                    continue
                told = [("held", k) for k, member in enumerate(family[1]) if set(member) <= set(deed[1])]
                for steps in told + [(("stays",),) * len(other[1])]:
                    self.assertIs(lets_steps(family, other, deed, steps), True)
                    self.assertEqual(behind_steps(family, other, deed, steps), (family, other))

    def test_held_where_other_has_two_members(self):
        one, other = (3, ((0, 1), (1, 2))), (3, ((0, 2), (1,)))
        self.assertEqual(behind_steps(one, other, ("put", (0, 1, 2)), ("held", 1)), (one, other))

    def test_written_out(self):
        one, other = (3, ((0, 1), (1, 2))), (3, ((0, 2), (1,)))
        self.assertEqual(behind_steps(one, other, ("put", (0,)), (("stays",), ("grows", (("new", (1,)),)))),
                         ((3, ((0,), (1, 2))), (3, ((0, 1), (0, 2)))))
        self.assertEqual(behind_steps(one, other, ("put", (1,)), (("grows", (("has", 1),)), ("stays",))),
                         ((3, ((1,),)), (3, ((1,),))))
        self.assertEqual(behind_steps(one, other, ("without", 0), (("less",), ("stays", (1,)))),
                         ((3, ((1, 2),)), (3, ((1,), (2,)))))
        self.assertEqual(behind_steps(one, other, ("without", 1), (("goes", 1), ("less",))), ((3, ()), (3, ((),))))
        self.assertEqual(behind_steps(one, other, ("keep", 0), (("goes",), ("stays",))), ((3, ((1,),)), (3, ((1,),))))
