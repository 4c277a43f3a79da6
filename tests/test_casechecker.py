"""[2], [5], [44] to [46], [48]: the checker of CASES, and their REACH."""

import copy
import random
import unittest

from rivalsets.casechecker import lets_cases, reach_of
from rivalsets.casing import cases_for
from rivalsets.errors import NoPaper
from tests.reference import (cases_judged, chance_cases, chance_weights, every_family, large_families, layer,
                             least_price, odd_things, said, small_families, turned, turned_at_chance)

WORDS = ["enough", "member", "rows", "Member", ""]
ENOUGH = ("enough",)
# A round of three: each two of its places are a least meeter.
ROUND = (3, ((0, 1), (0, 2), (1, 2)))
PAPER = ("member", 0,                                   # 0: (), ()
         (("member", 2, (ENOUGH, ENOUGH)),              # 1: (0,), ();   2: (0, 1), ();   3: (0, 2), (1,)
          ("member", 1, (ENOUGH,))))                    # 4: (1,), (0,); 5: (1, 2), (0,)
WAYS = [(), (0,), (0, 0), (0, 1), (1,), (1, 0)]


def put_in(thing, way, part):
    """The thing with a part in it otherwise: way goes down to it by numbers of rows."""
    if not way:
        return part
    rows = list(thing[2])
    rows[way[0]] = put_in(rows[way[0]], way[1:], part)
    return thing[:2] + (tuple(rows),)


class LetsCases(unittest.TestCase):
    def check(self, family, weights, bound, thing, due):
        self.assertEqual(cases_judged(family, weights, bound, thing), due)
        self.check_same(family, weights, bound, thing)

    def check_same(self, family, weights, bound, thing):
        told = said(NoPaper, lets_cases, family, weights, bound, thing)
        self.assertEqual(told, cases_judged(family, weights, bound, thing), (family, weights, bound, thing))

    def test_written_out(self):
        for bound in (0, 1, 2):
            self.check(ROUND, (1, 1, 1), bound, PAPER, True)
        self.check(ROUND, (1, 1, 1), 3, PAPER, ("cheap", 2))
        self.check(ROUND, (1, 2, 1), 3, PAPER, ("cheap", 3))
        self.check(ROUND, (1, 2, 2), 3, PAPER, True)
        self.check(ROUND, (2, 2, 1), 4, PAPER, ("cheap", 3))
        self.check(ROUND, (4, 2, 1), 4, PAPER, ("cheap", 5))
        self.check(ROUND, (99, 99, 99), 198, PAPER, True)
        self.check(ROUND, (99, 99, 99), 199, PAPER, ("cheap", 2))

    def test_void(self):
        for n in range(9):
            self.check((n, ()), (1,) * n, 0, ENOUGH, True)
            for bound in (1, 800):
                self.check((n, ()), (1,) * n, bound, ENOUGH, ("cheap", 0))
            self.check((n, ()), (1,) * n, 0, ("member", 0, ()), ("shape", 0))

    def test_whole(self):
        for n in range(9):
            whole = (n, ((),))
            for bound in (0, 1, 800):
                self.check(whole, (0,) * n, bound, ("member", 0, ()), True)
                self.check(whole, (0,) * n, bound, ("member", 0, (ENOUGH,)), ("rows", 0))
                self.check(whole, (0,) * n, bound, ("member", 1, ()), ("shape", 0))
            self.check(whole, (0,) * n, 0, ENOUGH, True)
            self.check(whole, (9,) * n, 1, ENOUGH, ("cheap", 0))

    def test_bound_nought(self):
        for family in small_families():
            self.check(family, (0,) * family[0], 0, ENOUGH, True)
            self.check(family, (0,) * family[0], 1, ENOUGH, ("cheap", 0))

    def test_a_fault_at_each_part_with_its_number(self):
        for number, way in enumerate(WAYS):
            for thing in [None, True, 0, "enough", [], (), ["enough"], ("enough", 0), ("Enough",), ("member",),
                          ("member", 0), ("member", 3, ()), ("member", -1, ()), ("member", True, ()),
                          ("member", None, ()), ("member", 0, []), ("member", 0, None), ("member", 0, (), ()),
                          ["member", 0, ()], ("members", 0, ()), ("member", 10 ** 399, ()), ("member", "0", ()),
                          (("member",), 0, ()), (["enough"],)]:
                self.check(ROUND, (1, 1, 1), 2, put_in(PAPER, way, thing), ("shape", number))
        for number, way, thing in [(1, (0,), ("member", 0, ())), (1, (0,), ("member", 1, (ENOUGH, ENOUGH))),
                                   (2, (0, 0), ("member", 2, (ENOUGH,))), (3, (0, 1), ("member", 2, ())),
                                   (4, (1,), ("member", 0, (ENOUGH,))),
                                   (5, (1, 0), ("member", 1, ()))]:
            self.check(ROUND, (1, 1, 1), 2, put_in(PAPER, way, thing), ("met", number))
        for number, way, thing in [(0, (), ("member", 0, ())), (0, (), ("member", 0, (None,))),
                                   (0, (), ("member", 0, (PAPER,) * 3)), (1, (0,), ("member", 2, (ENOUGH,))),
                                   (1, (0,), ("member", 2, (ENOUGH,) * 3)), (4, (1,), ("member", 1, ())),
                                   (4, (1,), ("member", 1, (ENOUGH, ENOUGH)))]:
            self.check(ROUND, (1, 1, 1), 2, put_in(PAPER, way, thing), ("rows", number))
        for number, way in [(0, ()), (1, (0,)), (4, (1,))]:
            self.check(ROUND, (1, 1, 1), 2, put_in(PAPER, way, ENOUGH), ("cheap", number))

    def test_two_faults_the_first_one_goes(self):
        self.check(ROUND, (1, 1, 1), 2, put_in(put_in(PAPER, (0, 1), None), (1,), ENOUGH), ("shape", 3))
        self.check(ROUND, (1, 1, 1), 2, put_in(put_in(PAPER, (0,), ENOUGH), (1,), None), ("cheap", 1))
        # A member that is met with rows too many, and a met one by no right kind.
        self.check(ROUND, (1, 1, 1), 2, put_in(PAPER, (0,), ("member", 0, (None,) * 9)), ("met", 1))
        self.check(ROUND, (1, 1, 1), 2, put_in(PAPER, (0,), ("member", 0, [])), ("shape", 1))
        # The count of rows goes ahead of what is in them.
        self.check(ROUND, (1, 1, 1), 2, ("member", 0, (None, None, None)), ("rows", 0))
        self.check(ROUND, (1, 1, 1), 2, ("member", 0, (None, None)), ("shape", 1))
        self.check(ROUND, (1, 1, 1), 2, put_in(put_in(PAPER, (1, 0), None), (0, 1), ("member", 1, ())), ("met", 3))

    def test_a_member_whose_places_are_all_left_out(self):
        family = (4, ((0, 1), (0, 2), (1, 3)))
        paper = ("member", 1,                                            # 0: (), ()
                 (("member", 2, (ENOUGH, ENOUGH)),                       # 1: (0,), ();   2: (0, 1), (); 3: (0, 3), (1,)
                  ("member", 2, (ENOUGH, ("member", 0, ())))))           # 4: (2,), (0,); 5: (1, 2), (0,)
        for weights, bound in [((1, 1, 1, 1), 2), ((5, 5, 0, 0), 5), ((99, 99, 1, 1), 100)]:
            # 6: TAKEN is (2, 3), LEFT OUT (0, 1): the member (0, 1) has no place more.
            self.check(family, weights, bound, paper, True)
            self.check(family, weights, bound, put_in(paper, (1, 1), ("member", 0, (ENOUGH,))), ("rows", 6))
            self.check(family, weights, bound, put_in(paper, (1, 1), ("member", 1, ())), ("met", 6))
            self.check(family, weights, bound + 1, paper, ("cheap", 2 if weights[0] == 1 else 3))
        self.check(family, (5, 5, 0, 0), 5, put_in(paper, (1, 1), ENOUGH), ("cheap", 6))
        self.assertEqual(reach_of(family, (5, 5, 0, 0), paper), 5)
        # Where a place has a row it is LEFT OUT in the rows behind, and in all that is in these.
        self.check(family, (1, 1, 1, 1), 2, put_in(paper, (1,), ("member", 0, (ENOUGH, ENOUGH))), ("rows", 4))
        self.check(family, (1, 1, 1, 1), 2, put_in(paper, (1,), ("member", 0, (ENOUGH,))), True)
        self.check(family, (1, 1, 1, 1), 2, put_in(paper, (1,), ("member", 0, (("member", 2, ()),))), ("met", 5))

    def test_any_thing(self):
        for family in [ROUND, (2, ()), (2, ((),)), (0, ()), (0, ((),)), layer(8, 4)]:
            weights = (1,) * family[0]
            for thing in odd_things() + [()]:
                for told in [thing, (thing,), ("member", 0, thing), ("member", thing, ()), (thing, 0, ()),
                             ("member", 0, (thing,) * len(family[1][0] if family[1] else ()))]:
                    for bound in (0, 2):
                        self.check_same(family, weights, bound, told)

    def test_by_chance(self):
        source = random.Random(48)
        for family in small_families() + large_families():
            weights = chance_weights(source, family[0])
            least = least_price(family, weights)
            for bound in [0, 1, 800, source.randrange(801)] if least is None else [0, least, least // 2]:
                self.check(family, weights, bound, chance_cases(source, family, weights, bound), True)

    def test_each_spot_turned(self):
        source = random.Random(49)
        families = [family for n in range(4) for family in every_family(n)] + source.sample(every_family(4), 15)
        for family in families:
            weights = chance_weights(source, family[0])
            bound = least_price(family, weights)
            paper = chance_cases(source, family, weights, 9 if bound is None else bound)
            for thing in turned(paper, WORDS):
                self.check_same(family, weights, 9 if bound is None else bound, thing)

    def test_two_spots_turned_in_great_ones(self):
        source = random.Random(50)
        for family in large_families():
            weights = chance_weights(source, family[0])
            bound = 9 if family[1] == ((),) else least_price(family, weights)
            paper = chance_cases(source, family, weights, bound)
            for count in range(15):
                thing = turned_at_chance(source, paper, WORDS)
                self.check_same(family, weights, bound, thing)
                self.check_same(family, weights, bound, turned_at_chance(source, thing, WORDS))
                self.check_same(family, chance_weights(source, family[0]), source.randrange(801), paper)

    def test_let_by_no_meeter_is_cheaper(self):
        """Whoever wrote it, for whatever family, weights and bound: where it is let by, the bound is no greater."""
        source = random.Random(51)
        for count in range(600):
            family = source.choice(every_family(source.randrange(5)))
            written = source.choice([family, source.choice(every_family(family[0]))])
            weights = chance_weights(source, family[0], 5)
            paper = chance_cases(source, written, (1,) * family[0], 1 if written[1] else 0)
            for bound in range(12):
                self.check_same(family, weights, bound, paper)
                least = least_price(family, weights)
                if said(NoPaper, lets_cases, family, weights, bound, paper) is True and least is not None:
                    self.assertGreaterEqual(least, bound)

    def test_eight_places_and_seventy_members(self):
        source = random.Random(52)
        for family, least in [(layer(8, 4), 5), (layer(8, 5), 4), (layer(8, 1), 8), (layer(8, 8), 1)]:
            weights = (1,) * 8
            for paper in (chance_cases(source, family, weights, least), cases_for(family, weights, least)[1]):
                self.check(family, weights, least, paper, True)
                self.assertEqual(reach_of(family, weights, paper), least)

    def test_lists_handed_in_are_as_they_were(self):
        thing = ("member", 0, (("member", 2, [ENOUGH, ENOUGH]), [ENOUGH]))
        kept = copy.deepcopy(thing)
        self.check(ROUND, (1, 1, 1), 2, thing, ("shape", 1))
        self.assertEqual(thing, kept)


class ReachOf(unittest.TestCase):
    def test_written_out(self):
        self.assertEqual(reach_of(ROUND, (1, 1, 1), PAPER), 2)
        self.assertEqual(reach_of(ROUND, (1, 2, 4), PAPER), 3)
        self.assertEqual(reach_of(ROUND, (9, 2, 4), PAPER), 6)
        self.assertEqual(reach_of(ROUND, (0, 0, 0), PAPER), 0)
        self.assertEqual(reach_of(ROUND, (9, 9, 9), ENOUGH), 0)

    def test_none_without_an_enough(self):
        for n in range(9):
            self.assertIsNone(reach_of((n, ((),)), (1,) * n, ("member", 0, ())))
            self.assertEqual(reach_of((n, ((),)), (1,) * n, ENOUGH), 0)

    def test_by_the_bounds_that_it_is_let_by_for(self):
        source = random.Random(53)
        for family in small_families()[::2] + large_families():
            weights = chance_weights(source, family[0], 9)
            paper = chance_cases(source, family, weights, 5 if family[1] == ((),) else least_price(family, weights))
            reach = reach_of(family, weights, paper)
            if reach is None:
                bounds = [0, 1, 400, 800]
            else:
                self.assertIs(type(reach), int)
                bounds = [0, max(reach - 1, 0), reach, reach + 1, 800]
            for bound in bounds:
                let = said(NoPaper, lets_cases, family, weights, bound, paper) is True
                self.assertIs(let, reach is None or bound <= reach)
