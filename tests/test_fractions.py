"""[2], [57]: FRACTIONs."""

import random
import unittest
from fractions import Fraction
from math import gcd

from rivalsets.fractions import fraction_of, is_below, is_fraction
from tests.reference import odd_things


class IsFraction(unittest.TestCase):
    def test_small_numbers(self):
        for top in range(-30, 31):
            for bottom in range(-5, 31):
                due = bottom >= 1 and gcd(top, bottom) == 1
                self.assertIs(is_fraction((top, bottom)), due, (top, bottom))
                self.assertIs(is_fraction([top, bottom]), False)

    def test_edges(self):
        for thing in [(0, 1), (1, 1), (-1, 1), (-1, 2), (7, 1), (-7, 3), (1, 99), (10 ** 399, 1), (1, 10 ** 399),
                      (-10 ** 399, 10 ** 399 - 1), (10 ** 45 + 1, 10 ** 45)]:
            self.assertIs(is_fraction(thing), True, thing)
        for thing in [(0, 2), (0, 0), (0, -1), (1, 0), (1, -1), (-1, -1), (2, 2), (-2, 4), (6, 9), (10 ** 399, 10),
                      (0, 10 ** 399), (10 ** 399, 10 ** 399), (3 * 10 ** 40, 3 * 10 ** 40 + 3), (1, -10 ** 399)]:
            self.assertIs(is_fraction(thing), False, thing)

    def test_kinds(self):
        for thing in [(True, 1), (1, True), (False, 1), (True, True), (False, True), (0, False), [0, 1], (0,), (),
                      (0, 1, 1), ("0", 1), (0, "1"), (None, 1), (0, None), ((0,), 1), (0, (1,)), ([0], 1), ((0, 1),)]:
            self.assertIs(is_fraction(thing), False, thing)

    def test_any_other_thing(self):
        for thing in odd_things():
            self.assertIs(is_fraction(thing), False, thing)
            self.assertIs(is_fraction((thing, 1)), type(thing) is int, thing)
            self.assertIs(is_fraction((1, thing)), type(thing) is int and thing >= 1, thing)

    def test_four_hundred_figures(self):
        # Neighbours in this row share no divisor, and take the most steps to show it.
        low, high = 1, 1
        while len(str(high)) < 400:
            low, high = high, low + high
        self.assertIs(is_fraction((low, high)), True)
        self.assertIs(is_fraction((-high, low)), True)
        self.assertIs(is_fraction((low * 2, high * 2)), False)


class FractionOf(unittest.TestCase):
    def check(self, top, bottom):
        told = fraction_of(top, bottom)
        due = Fraction(top, bottom)
        self.assertIs(type(told), tuple)
        self.assertEqual(told, (due.numerator, due.denominator))
        self.assertIs(type(told[0]), int)
        self.assertIs(type(told[1]), int)
        self.assertIs(is_fraction(told), True)

    def test_small_numbers(self):
        for top in range(-40, 41):
            for bottom in range(1, 41):
                self.check(top, bottom)

    def test_great_numbers(self):
        source = random.Random(69)
        for count in range(300):
            common = source.randrange(1, 10 ** source.randrange(1, 20))
            self.check(source.randrange(-10 ** 40, 10 ** 40) * common, source.randrange(1, 10 ** 40) * common)
        for top in (0, 1, -1, 10 ** 40 - 1, 1 - 10 ** 40):
            for bottom in (1, 2, 10 ** 40 - 1):
                self.check(top, bottom)

    def test_written_out(self):
        self.assertEqual(fraction_of(0, 7), (0, 1))
        self.assertEqual(fraction_of(-4, 6), (-2, 3))
        self.assertEqual(fraction_of(6, 4), (3, 2))
        self.assertEqual(fraction_of(8, 4), (2, 1))


class IsBelow(unittest.TestCase):
    def test_small_numbers(self):
        told = sorted({fraction_of(top, bottom) for top in range(-6, 7) for bottom in range(1, 7)})
        for one in told:
            for other in told:
                self.assertIs(is_below(one, other), Fraction(*one) < Fraction(*other), (one, other))

    def test_equal_ones(self):
        for one in [(0, 1), (1, 2), (-1, 2), (10 ** 40 - 1, 10 ** 39), (-5, 1)]:
            self.assertIs(is_below(one, one), False)

    def test_great_numbers(self):
        near = [(10 ** 39 - 1, 10 ** 39), (1, 1), (10 ** 39 + 1, 10 ** 39)]
        for at, one in enumerate(near):
            for also, other in enumerate(near):
                self.assertIs(is_below(one, other), at < also)
                self.assertIs(is_below((-one[0], one[1]), (-other[0], other[1])), at > also)
        self.assertIs(is_below((-1, 10 ** 39), (0, 1)), True)
        self.assertIs(is_below((0, 1), (-1, 10 ** 39)), False)
