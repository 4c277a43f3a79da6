"""[2], [31]: twins."""

import random
import unittest

from rivalsets.errors import NoSteps
from rivalsets.twins import Twin
from tests.reference import (all_deeds, became, judged, large_families, layer, odd_things, other_of, refusal,
                             small_families)


def wrong_deeds(n):
    return odd_things() + [(), ("put", (n,)), ("keep", n), ("without", n), ("put", (1, 0)), ("put", 0), ("back",),
                           ["put", ()], ("put", []), ("without", True), ("keep", False), ("put", (False,))]


class Twins(unittest.TestCase):
    def check_state(self, twin, family, count):
        self.assertEqual(twin.family(), family)
        self.assertEqual(twin.other(), other_of(family))
        self.assertEqual(twin.count(), count)
        self.assertIs(type(twin.count()), int)

    def check_deed(self, twin, deed):
        one, other, count = twin.family(), twin.other(), twin.count()
        steps = twin.do(deed)
        self.assertIs(type(steps), tuple)
        self.assertIs(judged(one, other, deed, steps), True)
        self.check_state(twin, became(one, deed), count + 1)

    def test_methods_stand_in_the_class_itself(self):
        for name in ("family", "other", "do", "back", "count"):
            self.assertIn(name, vars(Twin))

    def test_new_ones(self):
        for family in small_families() + large_families():
            twin = Twin(family)
            self.check_state(twin, family, 0)
            self.assertIs(twin.back(), False)
            self.check_state(twin, family, 0)

    def test_each_deed_and_back(self):
        for family in small_families()[::3]:
            for deed in all_deeds(family[0]):
                twin = Twin(family)
                self.check_deed(twin, deed)
                self.assertIs(twin.back(), True)
                self.check_state(twin, family, 0)
                self.assertIs(twin.back(), False)
                self.check_state(twin, family, 0)

    def test_forty_deeds_and_backs(self):
        source = random.Random(34)
        for family in large_families()[::2] + small_families()[::20]:
            n = family[0]
            twin, past = Twin(family), []
            for count in range(40):
                if source.randrange(3):
                    past.append(twin.family())
                    self.check_deed(twin, source.choice(all_deeds(n)))
                elif past:
                    self.assertIs(twin.back(), True)
                    self.check_state(twin, past.pop(), len(past))
                else:
                    self.assertIs(twin.back(), False)

    def test_backs_till_none_is_left_and_one_more(self):
        for n in (0, 1, 3, 8):
            twin, past = Twin((n, ())), []
            for deed in (all_deeds(n) * 20)[:20]:
                past.append(twin.family())
                self.check_deed(twin, deed)
            while past:
                self.assertIs(twin.back(), True)
                self.check_state(twin, past.pop(), len(past))
            self.assertIs(twin.back(), False)
            self.check_state(twin, (n, ()), 0)
            self.check_deed(twin, ("put", ()))

    def test_a_put_that_turns_nothing_is_a_deed(self):
        twin = Twin((2, ((0,),)))
        self.check_deed(twin, ("put", (0, 1)))
        self.check_deed(twin, ("put", (0,)))
        self.check_state(twin, (2, ((0,),)), 2)
        self.assertIs(twin.back(), True)
        self.check_state(twin, (2, ((0,),)), 1)

    def test_what_is_no_deed_is_refused_and_changes_nothing(self):
        for family in [(0, ()), (2, ((0,), (1,))), (3, ((),)), layer(8, 4)]:
            twin = Twin(family)
            twin.do(("put", ()))
            twin.do(("put", ()))
            twin.back()
            for thing in wrong_deeds(family[0]):
                refused = refusal(NoSteps, twin.do, thing)
                self.assertEqual((refused.word, refused.number), ("deed", -1))
                self.check_state(twin, (family[0], ((),)), 1)
            self.assertIs(twin.back(), True)
            self.check_state(twin, family, 0)

    def test_two_of_one_family_have_nothing_in_common(self):
        family = (3, ((0, 1), (1, 2)))
        first, second = Twin(family), Twin(family)
        self.check_deed(first, ("put", (0,)))
        self.check_state(second, family, 0)
        self.check_deed(second, ("without", 1))
        self.check_deed(second, ("keep", 0))
        self.check_state(first, (3, ((0,), (1, 2))), 1)
        self.assertIs(first.back(), True)
        self.assertIs(first.back(), False)
        self.check_state(second, (3, ()), 2)

    def test_what_was_told_stays(self):
        family = (3, ((0, 1), (1, 2)))
        twin = Twin(family)
        told, other = twin.family(), twin.other()
        steps = twin.do(("put", (0,)))
        kept = tuple(steps)
        twin.do(("keep", 1))
        twin.back()
        self.assertEqual(told, (3, ((0, 1), (1, 2))))
        self.assertEqual(other, (3, ((0, 2), (1,))))
        self.assertEqual(steps, kept)
        self.assertEqual(family, (3, ((0, 1), (1, 2))))
