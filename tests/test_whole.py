"""[5]: what holds over the whole program; names turn nothing."""

import random
import unittest

from rivalsets.badchecker import bad_weights, lets_bad
from rivalsets.badseeking import bad_told, verdict
from rivalsets.casing import cases_for
from rivalsets.desk import Desk
from rivalsets.dualchecker import does_part, lets_dual, turned_about
from rivalsets.dualing import dual_told
from rivalsets.errors import NoPaper
from rivalsets.families import does_hold, least_ones
from rivalsets.fractions import is_below
from rivalsets.lookchecker import lets_look
from rivalsets.looking import look_told
from rivalsets.minors import kept_at, small_one, without_place
from rivalsets.others import fewest, is_meeter, other_family, shortest
from rivalsets.packs import full_places, most_packed, size_of
from rivalsets.pairing import pair_told
from rivalsets.paperturning import turned_shared
from rivalsets.puts import beside, crossed, doubled, spread
from rivalsets.sharechecker import lets_shared
from rivalsets.sharing import cut_of, halves_told, number_of, shared_told, whole_part
from rivalsets.stepchecker import becomes, lets_steps
from rivalsets.stepping import behind_steps, steps_for
from rivalsets.texts import family_lines, read_family, set_text
from rivalsets.turning import turned_family, turned_pack, turned_set, turned_weights
from rivalsets.weights import cheaper_ones, cheapest, cost_of, shortest_by
from tests.reference import (all_deeds, bits, chance_weights, every_family, large_families, least_price, meets_all,
                             price, renamed, said, small_families, small_weights, subsets, unlike_families)

FAMILIES = small_families() + large_families()


def chance_order(source, n):
    return tuple(source.sample(range(n), n))


def turned_deed(deed, order):
    return deed[0], turned_set(deed[1], order) if deed[0] == "put" else order[deed[1]]


class NamesTurnNothing(unittest.TestCase):
    def cases(self, seed, families=FAMILIES):
        source = random.Random(seed)
        for family in families:
            order = chance_order(source, family[0])
            yield source, family, order, renamed(family, order)

    def test_others_and_small_ones(self):
        for source, family, order, turned in self.cases(211):
            n = family[0]
            self.assertEqual(other_family(turned), turned_family(other_family(family), order))
            self.assertEqual((shortest(turned), fewest(turned)), (shortest(family), fewest(family)))
            for place in range(n):
                self.assertEqual(without_place(turned, order[place]), turned_family(without_place(family, place), order))
                self.assertEqual(kept_at(turned, order[place]), turned_family(kept_at(family, place), order))
                if n < 8:
                    longer = order + (n,)
                    self.assertEqual(doubled(turned, order[place]), turned_family(doubled(family, place), longer))
                    self.assertEqual(spread(turned, order[place]), turned_family(spread(family, place), longer))
            some = source.choice(subsets(n))
            own = tuple(place for place in some if source.randrange(2))
            rest = tuple(place for place in some if place not in own)
            self.assertEqual(small_one(turned, turned_set(own, order), turned_set(rest, order)),
                             turned_family(small_one(family, own, rest), order))
            self.assertEqual(does_hold(turned, turned_set(some, order)), does_hold(family, some))
            self.assertEqual(is_meeter(turned, turned_set(some, order)), is_meeter(family, some))
            sets = [source.choice(subsets(n)) for count in range(9)]
            self.assertEqual(least_ones(n, [turned_set(each, order) for each in sets]),
                             turned_family(least_ones(n, sets), order))

    def test_deeds(self):
        for source, family, order, turned in self.cases(212, FAMILIES[::2]):
            deed = source.choice(all_deeds(family[0]))
            self.assertEqual(becomes(turned, turned_deed(deed, order)), turned_family(becomes(family, deed), order))
            other = other_family(turned)
            steps = steps_for(turned, other, turned_deed(deed, order))
            self.assertIs(lets_steps(turned, other, turned_deed(deed, order), steps), True)
            behind = behind_steps(turned, other, turned_deed(deed, order), steps)[1]
            self.assertEqual(behind, turned_family(other_family(becomes(family, deed)), order))

    def test_duals(self):
        for source, family, order, turned in self.cases(213, FAMILIES[::2]):
            partner = source.choice([other_family(family), source.choice(FAMILIES)])
            if partner[0] != family[0]:
                continue
            other = turned_family(partner, order)
            self.assertEqual(dual_told(turned, other)[0], dual_told(family, partner)[0])
            some = source.choice(subsets(family[0]))
            self.assertEqual(does_part(turned, other, turned_set(some, order)), does_part(family, partner, some))

    def test_weights_and_packs(self):
        for source, family, order, turned in self.cases(214):
            weights = small_weights(source, family[0])
            by = turned_weights(weights, order)
            bound = source.randrange(14)
            self.assertEqual({turned_set(some, order) for some in cheaper_ones(family, weights, bound)},
                             set(cheaper_ones(turned, by, bound)))
            self.assertEqual(cases_for(turned, by, bound)[0], cases_for(family, weights, bound)[0])
            for asked in (cheapest, shortest_by):
                one, other = asked(family, weights), asked(turned, by)
                self.assertEqual(one is None, other is None)
                if one is not None:
                    self.assertEqual(cost_of(weights, one), cost_of(by, other))
            told = pair_told(family, weights)
            if told is None:
                self.assertIsNone(pair_told(turned, by))
                continue
            self.assertEqual(pair_told(turned, by)[0], told[0])
            self.assertEqual(size_of(most_packed(turned, by)), size_of(most_packed(family, weights)))
            self.assertEqual(full_places(turned, by, turned_pack(told[2], order)),
                             turned_set(full_places(family, weights, told[2]), order))

    def test_the_only_cheapest_meeter(self):
        found = 0
        for source, family, order, turned in self.cases(215):
            weights = tuple(source.randrange(1, 100) for place in range(family[0]))
            least = least_price(family, weights)
            cheap = [mask for mask in range(1 << family[0]) if price(weights, mask) == least and meets_all(family, mask)]
            if len(cheap) == 1:
                found += 1
                self.assertEqual(cheapest(turned, turned_weights(weights, order)),
                                 turned_set(cheapest(family, weights), order))
        self.assertGreater(found, 100)

    def test_shares(self):
        for source, family, order, turned in self.cases(216):
            weights = chance_weights(source, family[0])
            by = turned_weights(weights, order)
            paper, other = shared_told(family, weights), shared_told(turned, by)
            self.assertEqual(paper is None, other is None)
            self.assertEqual(halves_told(family, weights) is None, halves_told(turned, by) is None)
            if paper is not None:
                self.assertEqual(number_of(other), number_of(paper))
                moved = turned_shared(paper, order)
                self.assertEqual(whole_part(moved), turned_pack(whole_part(paper), order))
                self.assertEqual(cut_of(turned, moved), turned_set(cut_of(family, paper), order))

    def test_looks_bads_verdicts(self):
        for source, family, order, turned in self.cases(217, small_families()[::2] + unlike_families(5)[::2]):
            self.assertEqual(look_told(turned) is None, look_told(family) is None)
            self.assertEqual(bad_told(turned) is None, bad_told(family) is None)
            self.assertEqual(verdict(turned)[0], verdict(family)[0])
            paper = bad_told(family)
            if paper is not None:
                out, kept, own, word = paper
                moved = (turned_set(out, order), turned_set(kept, order), tuple(order[place] for place in own), word)
                self.assertIs(lets_bad(turned, moved), True)
                self.assertEqual(bad_weights(turned, moved), turned_weights(bad_weights(family, paper), order))

    def test_a_desk(self):
        for source, family, order, turned in self.cases(218, small_families()[::3]):
            n = family[0]
            weights = small_weights(source, n)
            desks = []
            for own, by in [(family, weights), (turned, turned_weights(weights, order))]:
                desk = Desk(n)
                desk.say("new a")
                for member in own[1]:
                    desk.say(f"put a {set_text(member)}")
                desk.say(" ".join(["weigh", *map(str, by)]))
                desks.append(desk)
            for row in ["verdict a", "cheapest a", "shared a", "even a", "dual a a", "names"]:
                self.assertEqual(desks[0].say(row), desks[1].say(row))
            told = [read_family(desk.say("other a").split("; ")) for desk in desks]
            self.assertEqual(told[1], turned_family(told[0], order))
            self.assertEqual(desks[1].say("family a"), "; ".join(family_lines(turned)))


class TheWhole(unittest.TestCase):
    def test_others_are_exchanged(self):
        source = random.Random(219)
        for family in FAMILIES:
            n, other = family[0], other_family(family)
            self.assertEqual(other_family(other), family)
            for place in range(n):
                self.assertEqual(other_family(without_place(family, place)), kept_at(other, place))
                self.assertEqual(other_family(kept_at(family, place)), without_place(other, place))
                if n < 8:
                    self.assertEqual(other_family(doubled(family, place)), spread(other, place))
                    self.assertEqual(other_family(spread(family, place)), doubled(other, place))
            second = source.choice(every_family(source.randrange(5)))
            if n + second[0] < 9:
                self.assertEqual(other_family(beside(family, second)), crossed(other, other_family(second)))
                self.assertEqual(other_family(crossed(family, second)), beside(other, other_family(second)))

    def test_dual_or_parted(self):
        source = random.Random(220)
        for count in range(300):
            one, other = [source.choice(every_family(count % 5)) for side in range(2)]
            other = other_family(one) if source.randrange(2) else other
            word, thing = dual_told(one, other)
            self.assertEqual(word, "dual" if other_family(one) == other else "parted")
            if word == "dual":
                self.assertIs(lets_dual(one, other, thing), True)
                self.assertIs(lets_dual(other, one, turned_about(thing)), True)
            else:
                self.assertIs(does_part(one, other, thing), True)

    def test_what_lies_between(self):
        source = random.Random(221)
        for family in FAMILIES:
            weights = small_weights(source, family[0])
            told = pair_told(family, weights)
            if told is None:
                continue
            paper = shared_told(family, weights)
            self.assertIs(lets_shared(family, weights, paper), True)
            size, cost = size_of(told[2]), cost_of(weights, told[1])
            self.assertIs(is_below(number_of(paper), (size, 1)), False)
            self.assertIs(is_below((cost, 1), number_of(paper)), False)
            self.assertEqual(told[0] == "pair", size == cost)
            self.assertEqual(cases_for(family, weights, cost)[0], "cases")
            self.assertEqual(cases_for(family, weights, cost + 1)[0], "cheaper")
            cut = cut_of(family, paper)
            self.assertIs(meets_all(family, bits(cut)), True)

    def test_bad_ones_and_looks(self):
        source = random.Random(222)
        for family in small_families() + unlike_families(5):
            bad, look = bad_told(family), look_told(family)
            self.assertTrue(bad is None or look is None)
            if bad is not None:
                self.assertEqual(pair_told(family, bad_weights(family, bad))[0], "apart")
            if look is not None:
                self.assertIs(said(NoPaper, lets_look, family, look), True)
                for count in range(2):
                    self.assertEqual(pair_told(family, small_weights(source, family[0]))[0], "pair")
