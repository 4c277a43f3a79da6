"""[2], [3], [10]: SETs."""

import unittest
from itertools import product

from rivalsets.sets import all_sets, do_meet, is_set, is_within, put_together, shared_by, taken_from
from tests.reference import nested, odd_things, subsets


class IsSet(unittest.TestCase):
    def test_just_the_rising_tuples_below_n(self):
        for n in range(9):
            sets = set(subsets(n))
            for many in range(4):
                for thing in product(range(-1, 10), repeat=many):
                    self.assertIs(is_set(n, thing), thing in sets, (n, thing))

    def test_all_sets_of_eight(self):
        for some in subsets(8):
            for n in range(9):
                self.assertIs(is_set(n, some), all(place < n for place in some))

    def test_empty_is_one_of_no_places(self):
        self.assertIs(is_set(0, ()), True)
        self.assertIs(is_set(0, (0,)), False)

    def test_truths_are_no_places(self):
        for thing in [(True,), (False,), (0, True), (False, 1), (0, 1, True), (True, 2), (True, True)]:
            for n in range(9):
                self.assertIs(is_set(n, thing), False, thing)

    def test_a_list_is_no_tuple(self):
        for some in subsets(4):
            self.assertIs(is_set(8, list(some)), False)

    def test_any_other_thing(self):
        for n in range(9):
            for thing in odd_things():
                self.assertIs(is_set(n, thing), False, thing)

    def test_wrong_within(self):
        for thing in [(0, None), (0, "1"), ("0", 1), (0, (1,)), ((0,), 1), (0, [1]), (-1, 0), (0, 10 ** 399),
                      (0, nested(38)), (1, 0), (0, 0), (0, 2, 1), (0, 1, 1), (7, 8)]:
            self.assertIs(is_set(8, thing), False, thing)


class TwoSets(unittest.TestCase):
    def test_against_pythons_sets(self):
        for one in subsets(5):
            for other in subsets(5):
                first, second = set(one), set(other)
                self.assertIs(is_within(one, other), first <= second)
                self.assertIs(do_meet(one, other), bool(first & second))
                self.assertEqual(put_together(one, other), tuple(sorted(first | second)))
                self.assertEqual(taken_from(one, other), tuple(sorted(first - second)))
                self.assertEqual(shared_by(one, other), tuple(sorted(first & second)))

    def test_empty_is_within_each_and_meets_none(self):
        for some in subsets(8):
            self.assertIs(is_within((), some), True)
            self.assertIs(is_within(some, some), True)
            self.assertIs(is_within(some, ()), some == ())
            self.assertIs(do_meet((), some), False)
            self.assertIs(do_meet(some, ()), False)
            self.assertIs(do_meet(some, some), some != ())

    def test_sets_of_unlike_counts_of_places(self):
        self.assertIs(is_within((0, 7), (0, 3, 7)), True)
        self.assertEqual(put_together((6, 7), (0, 1)), (0, 1, 6, 7))
        self.assertEqual(put_together((1, 3, 5), (0, 2, 3, 7)), (0, 1, 2, 3, 5, 7))
        self.assertEqual(taken_from((0, 7), (1, 7)), (0,))
        self.assertEqual(shared_by((0, 7), (1, 7)), (7,))

    def test_told_are_tuples(self):
        for asked in (put_together, taken_from, shared_by):
            for one, other in [((), ()), ((0,), ()), ((), (0,)), ((0, 1), (1, 2))]:
                self.assertIs(type(asked(one, other)), tuple)


class AllSets(unittest.TestCase):
    def test_fewer_places_ahead_then_as_python_sorts(self):
        for n in range(9):
            told = all_sets(n)
            self.assertIs(type(told), list)
            self.assertEqual(told, sorted(subsets(n), key=lambda some: (len(some), some)))
            self.assertEqual(len(told), 2 ** n)

    def test_written_out(self):
        self.assertEqual(all_sets(0), [()])
        self.assertEqual(all_sets(3), [(), (0,), (1,), (2,), (0, 1), (0, 2), (1, 2), (0, 1, 2)])

    def test_each_is_a_set(self):
        for some in all_sets(8):
            self.assertIs(is_set(8, some), True)

    def test_what_is_told_is_the_askers_own(self):
        all_sets(2).clear()
        all_sets(2).append("x")
        self.assertEqual(all_sets(2), [(), (0,), (1,), (0, 1)])
