"""[2], [13], [14], [15]: texts."""

import unittest

from rivalsets.errors import NoText
from rivalsets.texts import family_lines, read_family, read_set, set_text
from tests.reference import large_families, refusal, small_families, subsets


class SetTexts(unittest.TestCase):
    def test_written(self):
        self.assertEqual(set_text(()), "-")
        self.assertEqual(set_text((0,)), "0")
        self.assertEqual(set_text((0, 3, 7)), "0,3,7")
        self.assertEqual(set_text(tuple(range(8))), "0,1,2,3,4,5,6,7")

    def test_read_of_each_count_of_places(self):
        for some in subsets(8):
            for n in range(9):
                fits = all(place < n for place in some)
                self.assertEqual(read_set(n, set_text(some)), some if fits else None)

    def test_told_is_a_tuple(self):
        self.assertIs(type(read_set(0, "-")), tuple)
        self.assertIs(type(read_set(3, "0,2")), tuple)

    def test_nearly_a_set(self):
        for text in ["", " ", "--", "-,", ",-", "-0", "0-", "- ", " -", "0,-", "-,0", ",", ",0", "0,", "0,,1", "0,1,",
                     " 0", "0 ", "0, 1", "0 ,1", "0 1", "00", "01", "0,01", "+0", "+1", "-1", "0,+1", "1,0", "0,0",
                     "1,1", "0,2,1", "0,1,1", "8", "9", "10", "0,8", "0,10", "0.1", "0;1", "a", "0,a", "()", "(0,)",
                     "0x1", "1_0", "0_1", "1e0", "~", "0,1~", "None", "family 2", "1" * 200, "0," * 100, "," * 200,
                     "0,1,2,3,4,5,6,7,8", "012", "01,2", "None", "True"]:
            self.assertIsNone(read_set(8, text), text)

    def test_just_one_text_for_each_set(self):
        signs = "-,0128 "
        texts = [""]
        for size in range(4):
            texts += [text + sign for text in texts if len(text) == size for sign in signs]
        for n in (0, 1, 2, 3, 8):
            written = {set_text(some): some for some in subsets(n)}
            for text in texts:
                self.assertEqual(read_set(n, text), written.get(text), (n, text))

    def test_places_that_are_not_there(self):
        self.assertIsNone(read_set(0, "0"))
        self.assertIsNone(read_set(3, "3"))
        self.assertIsNone(read_set(3, "0,3"))
        self.assertEqual(read_set(4, "0,3"), (0, 3))


class FamilyLines(unittest.TestCase):
    def test_written(self):
        self.assertEqual(family_lines((0, ())), ["family 0"])
        self.assertEqual(family_lines((8, ((),))), ["family 8", "-"])
        self.assertEqual(family_lines((4, ((0, 1), (0, 3), (2,)))), ["family 4", "0,1", "0,3", "2"])

    def test_read_again(self):
        for family in small_families() + large_families():
            lines = family_lines(family)
            self.assertIs(type(lines), list)
            self.assertEqual(len(lines), 1 + len(family[1]))
            self.assertEqual(read_family(lines), family)

    def test_what_is_told_is_the_askers_own(self):
        family = (2, ((0,), (1,)))
        family_lines(family).clear()
        self.assertEqual(family_lines(family), ["family 2", "0", "1"])

    def test_told_are_tuples(self):
        n, members = read_family(["family 3", "0,1", "2"])
        self.assertIs(type(read_family(["family 3"])), tuple)
        self.assertIs(type(members), tuple)
        self.assertEqual([type(member) for member in members], [tuple, tuple])


class NoTexts(unittest.TestCase):
    def check(self, lines, row, word):
        kept = list(lines)
        refused = refusal(NoText, read_family, lines)
        self.assertEqual((refused.row, refused.word), (row, word), lines)
        self.assertEqual(lines, kept)

    def test_no_lines(self):
        self.check([], 0, 0)

    def test_the_first_line(self):
        for line, word in [("", 0), (" ", 0), ("  ", 0), (" family 2", 0), ("Family 2", 0), ("famil 2", 0),
                           ("family2", 0), ("2 family", 0), ("2", 0), ("family", 1), ("family ", 1),
                           ("family  2", 1), ("family 9", 1), ("family 10", 1), ("family 02", 1), ("family -1", 1),
                           ("family +1", 1), ("family x", 1), ("family 2,", 1), ("family 2 ", 2), ("family 2 2", 2),
                           ("family 2  ", 2), ("family 2 2 2", 2), ("family 9 2", 1), ("fam 9 2", 0), ("-", 0),
                           ("family 01", 1), ("family 012", 1), ("family 12", 1), ("x", 0), ("family family 2", 1)]:
            self.check([line], 0, word)
            self.check([line, "0", "0"], 0, word)

    def test_each_count_of_places(self):
        for n in range(9):
            self.assertEqual(read_family([f"family {n}"]), (n, ()))
            self.assertEqual(read_family([f"family {n}", "-"]), (n, ((),)))

    def test_a_member_line(self):
        for line, word in [("", 0), (" ", 0), (" 0", 0), ("0 ", 1), ("0  ", 1), ("0 1", 1), ("0 1 2", 1), ("0  1", 1),
                           ("x", 0), ("x 1", 0), ("0,", 0), ("3", 0), ("0,3", 0), ("1,0", 0), ("00", 0), ("- ", 1),
                           ("-  -", 1), ("--", 0), ("family 3", 0), ("0, 1", 0), ("0,1 2", 1), ("2 x", 1)]:
            self.check(["family 3", line], 1, word)

    def test_the_order_of_members(self):
        self.check(["family 3", "1", "0"], 2, 0)
        self.check(["family 3", "1", "0 "], 2, 0)
        self.check(["family 3", "0", "0"], 2, 0)
        self.check(["family 3", "-", "-"], 2, 0)
        self.check(["family 3", "0", "1", "1"], 3, 0)
        self.check(["family 4", "0,2", "0,3", "0,1"], 3, 0)
        self.check(["family 4", "0,1", "2,3", "1,2"], 3, 0)

    def test_within_one_ahead_or_the_other_way_about(self):
        self.check(["family 3", "-", "0"], 2, 0)
        self.check(["family 3", "0", "0,1"], 2, 0)
        self.check(["family 3", "0,1", "1"], 2, 0)
        self.check(["family 3", "0,1,2", "0,2"], 2, 0)
        self.check(["family 4", "0,1,3", "0,2", "3"], 3, 0)
        self.check(["family 4", "0,1", "0,2", "1"], 3, 0)
        self.check(["family 4", "0,1,2", "0,3", "1,2"], 3, 0)
        self.check(["family 4", "0", "1,2", "1,3", "2"], 4, 0)
        self.check(["family 5", "0,1", "0,2,3", "0,2,4", "0,3,4", "1"], 5, 0)
        self.check(["family 5", "0,3", "1,2", "1,3,4", "1,2,3"], 4, 0)

    def test_behind_but_with_one_word_too_many(self):
        self.check(["family 3", "0", "1 "], 2, 1)
        self.check(["family 3", "0", "1 2", "0"], 2, 1)

    def test_the_first_line_that_cannot_stand(self):
        self.check(["family 3", "0", "x", "y"], 2, 0)
        self.check(["family 3", "0,1", "2 ", "0"], 2, 1)
        self.check(["family 2", "0", "1", ""], 3, 0)
        self.check(["family 0", "0"], 1, 0)
        self.check(["family 3", "family 3"], 1, 0)

    def test_eighty_lines(self):
        lines = family_lines((8, ((0, 1),))) + ["0,2"] * 78
        self.check(lines, 3, 0)
        self.check(["~" * 40] * 80, 0, 0)
