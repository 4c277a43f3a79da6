"""[5], [23], [24]: families put together."""

import random
import unittest

from rivalsets.errors import TooMany
from rivalsets.families import is_family
from rivalsets.minors import kept_at, without_place
from rivalsets.others import other_family
from rivalsets.puts import beside, crossed, doubled, spread
from tests.reference import as_family, every_family, large_families, layer, masks_of, refusal, small_families

FAMILIES = small_families() + large_families()


def pairs():
    """Pairs of families with at most eight places together, of unlike counts too."""
    source = random.Random(24)
    few = [family for n in range(3) for family in every_family(n)]
    told = [(one, other) for one in few for other in few]
    for count in range(300):
        one, other = source.choice(FAMILIES), source.choice(FAMILIES)
        if one[0] + other[0] <= 8:
            told += [(one, other), (other, one)]
    return told + [(layer(8, 4), (0, ())), ((0, ((),)), layer(8, 4)), (layer(4, 2), layer(4, 2))]


def beside_by_counting(one, other):
    return as_family(one[0] + other[0], masks_of(one) + [mask << one[0] for mask in masks_of(other)])


def crossed_by_counting(one, other):
    masks = [first | second << one[0] for first in masks_of(one) for second in masks_of(other)]
    return as_family(one[0] + other[0], masks)


class TwoTogether(unittest.TestCase):
    def test_by_counting(self):
        for one, other in pairs():
            self.assertEqual(beside(one, other), beside_by_counting(one, other))
            self.assertEqual(crossed(one, other), crossed_by_counting(one, other))
            self.assertIs(is_family(beside(one, other)), True)
            self.assertIs(is_family(crossed(one, other)), True)

    def test_written_out(self):
        one, other = (2, ((0, 1),)), (3, ((0, 2), (1,)))
        self.assertEqual(beside(one, other), (5, ((0, 1), (2, 4), (3,))))
        self.assertEqual(beside(other, one), (5, ((0, 2), (1,), (3, 4))))
        self.assertEqual(crossed(one, other), (5, ((0, 1, 2, 4), (0, 1, 3))))
        self.assertEqual(crossed(other, one), (5, ((0, 2, 3, 4), (1, 3, 4))))

    def test_of_no_places(self):
        for family in FAMILIES:
            n = family[0]
            self.assertEqual(beside(family, (0, ())), family)
            self.assertEqual(beside((0, ()), family), family)
            self.assertEqual(crossed(family, (0, ((),))), family)
            self.assertEqual(crossed((0, ((),)), family), family)
            self.assertEqual(beside(family, (0, ((),))), (n, ((),)))
            self.assertEqual(crossed((0, ()), family), (n, ()))

    def test_void_and_whole(self):
        family = (3, ((0, 1), (2,)))
        self.assertEqual(beside(family, (2, ((),))), (5, ((),)))
        self.assertEqual(beside((2, ((),)), family), (5, ((),)))
        self.assertEqual(beside((2, ()), family), (5, ((2, 3), (4,))))
        self.assertEqual(crossed(family, (2, ())), (5, ()))
        self.assertEqual(crossed((2, ()), family), (5, ()))
        self.assertEqual(crossed((2, ((),)), family), (5, ((2, 3), (4,))))

    def test_the_others(self):
        for one, other in pairs():
            self.assertEqual(other_family(beside(one, other)), crossed(other_family(one), other_family(other)))
            self.assertEqual(other_family(crossed(one, other)), beside(other_family(one), other_family(other)))

    def test_just_eight_places_and_more(self):
        for first in range(9):
            for second in range(9):
                one, other = (first, ((),)), (second, ())
                for asked in (beside, crossed):
                    if first + second <= 8:
                        self.assertEqual(asked(one, other)[0], first + second)
                        self.assertEqual(asked(other, one)[0], first + second)
                    else:
                        self.assertEqual(refusal(TooMany, asked, one, other).word, "places")
                        self.assertEqual(refusal(TooMany, asked, other, one).word, "places")


class OnePlaceMore(unittest.TestCase):
    def test_by_counting(self):
        for family in FAMILIES:
            n = family[0]
            for place in range(n if n < 8 else 0):
                own, new = 1 << place, 1 << n
                masks = masks_of(family)
                twice = masks + [mask ^ own | new for mask in masks if mask & own]
                wide = [mask | new if mask & own else mask for mask in masks]
                self.assertEqual(doubled(family, place), as_family(n + 1, twice))
                self.assertEqual(spread(family, place), as_family(n + 1, wide))
                self.assertEqual(len(doubled(family, place)[1]), len(twice))
                self.assertIs(is_family(doubled(family, place)), True)
                self.assertIs(is_family(spread(family, place)), True)

    def test_written_out(self):
        family = (3, ((0, 1), (0, 2), (1, 2)))
        self.assertEqual(doubled(family, 0), (4, ((0, 1), (0, 2), (1, 2), (1, 3), (2, 3))))
        self.assertEqual(spread(family, 0), (4, ((0, 1, 3), (0, 2, 3), (1, 2))))
        self.assertEqual(doubled((1, ((0,),)), 0), (2, ((0,), (1,))))
        self.assertEqual(spread((1, ((0,),)), 0), (2, ((0, 1),)))
        self.assertEqual(spread((3, ((0, 1), (1, 2))), 0), (4, ((0, 1, 3), (1, 2))))

    def test_void_and_whole(self):
        for n in range(1, 8):
            for asked in (doubled, spread):
                for place in range(n):
                    self.assertEqual(asked((n, ()), place), (n + 1, ()))
                    self.assertEqual(asked((n, ((),)), place), (n + 1, ((),)))

    def test_seven_places_and_eight(self):
        for asked in (doubled, spread):
            for place in range(7):
                self.assertEqual(asked(layer(7, 3), place)[0], 8)
            for place in range(8):
                for family in [layer(8, 4), (8, ()), (8, ((),))]:
                    self.assertEqual(refusal(TooMany, asked, family, place).word, "places")

    def test_the_others(self):
        for family in FAMILIES:
            other = other_family(family)
            for place in range(family[0] if family[0] < 8 else 0):
                self.assertEqual(other_family(doubled(family, place)), spread(other, place))
                self.assertEqual(other_family(spread(family, place)), doubled(other, place))

    def test_the_new_place_taken_away_again(self):
        for family in FAMILIES:
            n, members = family
            for place in range(n if n < 8 else 0):
                self.assertEqual(without_place(doubled(family, place), n), (n + 1, members))
                self.assertEqual(kept_at(spread(family, place), n), (n + 1, members))
