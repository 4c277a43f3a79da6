"""[71]: what is told of a FAMILY of at most five places."""

import random
import unittest

from rivalsets.lookchecker import lets_look
from rivalsets.looking import look_told
from tests.reference import every_family, look_judged, parts_judged, renamed, round_of, some_look, unlike_families


class LookTold(unittest.TestCase):
    def check(self, family):
        told = look_told(family)
        if told is not None:
            self.assertIs(type(told), tuple)
            self.assertIn(told[0], ("parts", "tree"))
            self.assertIs(look_judged(family, told), True, (family, told))
            self.assertIs(lets_look(family, told), True)
        return told

    def check_all(self, family):
        self.assertEqual(self.check(family) is not None, some_look(family), family)

    def test_all_families_of_at_most_four_places(self):
        for n in range(5):
            for family in every_family(n):
                self.check_all(family)

    def test_families_of_five_places(self):
        source = random.Random(151)
        found = 0
        for family in unlike_families(5):
            self.check_all(family)
            for count in range(3):
                # By other names there is one just where there was one.
                order = source.sample(range(5), 5)
                self.assertEqual(self.check(renamed(family, order)) is None, self.check(family) is None)
            found += self.check(family) is not None
        self.assertGreater(found, 20)

    def test_void_and_whole(self):
        for n in range(6):
            self.assertIsNone(look_told((n, ((),))))
            self.assertIsNotNone(self.check((n, ())))

    def test_written_out(self):
        self.assertEqual(self.check(round_of(4))[0], "parts")
        self.assertIs(parts_judged(round_of(4), look_told(round_of(4))[1]), True)
        self.assertEqual(self.check((5, ((0, 1, 2, 3, 4),)))[0], "tree")
        self.assertEqual(self.check((5, ((0,), (1,), (2,), (3,), (4,))))[0], "tree")
        self.assertEqual(self.check((5, ((0, 2, 4), (1, 2, 4), (3, 4))))[0], "tree")
        self.assertEqual(self.check((3, ((0, 1), (2,))))[0], "tree")
        for k in (3, 5):
            self.assertIsNone(look_told(round_of(k)))
        self.assertIsNone(look_told((5, ((0, 1), (0, 2), (1, 2)))))
        self.assertIsNone(look_told((4, ((0, 1, 2), (0, 3), (1, 3), (2, 3)))))
        # Rows that would have to go round.
        self.assertIsNone(look_told((4, ((0, 1, 2), (0, 1, 3), (0, 2, 3), (1, 2, 3)))))
        self.assertIsNone(look_told((5, ((0, 1, 2), (0, 1, 4), (0, 3, 4), (1, 2, 3), (2, 3, 4)))))
