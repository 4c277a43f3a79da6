"""[2], [79] to [84]: a desk, compared with a second one written from the document's rows."""

import random
import re
import unittest

from rivalsets.desk import Desk
from rivalsets.errors import NoRow, TooMany
from tests.reference import (became, bits, greatest_size, holds, least_price, meets_all, other_of, refusal,
                             round_of, shared_made, subsets, verdict_word)

HEADS = ["new", "copy", "drop", "names", "put", "without", "keep", "back", "family", "other", "holds", "meets", "dual",
         "verdict", "weigh", "cheapest", "shared", "even"]


def written(some):
    return ",".join(map(str, some)) or "-"


def listed(family):
    return "; ".join([f"family {family[0]}"] + [written(member) for member in family[1]])


class Model:
    """A desk by plain patterns: past states of each name, and weights."""

    def __init__(self, n):
        self.n, self.kept, self.weights = n, {}, (1,) * n
        self.sets = {written(some): some for some in subsets(n)}

    def say(self, row):
        """The answer, or the refusal's name."""
        head, *words = row.split(" ")
        if head == "weigh":
            if len(words) != self.n or not all(re.fullmatch("0|[1-9][0-9]?", word) for word in words):
                return NoRow
            self.weights = tuple(map(int, words))
            return "ok"
        if head == "names":
            return NoRow if words else " ".join(self.kept) or "none"
        if not words or not re.fullmatch("[a-z]{1,4}", words[0]) or words[0] == "none":
            return NoRow
        name, rest = words[0], words[1:]
        if head == "new":
            return self.start(name, (self.n, ())) if not rest else NoRow
        if name not in self.kept:
            return NoRow
        if head == "copy":
            if len(rest) != 1 or not re.fullmatch("[a-z]{1,4}", rest[0]) or rest[0] == "none":
                return NoRow
            return self.start(rest[0], self.kept[name][-1])
        if head == "dual":
            if len(rest) != 1 or rest[0] not in self.kept:
                return NoRow
            return "dual" if other_of(self.kept[name][-1]) == self.kept[rest[0]][-1] else "parted"
        if head in ("put", "holds", "meets"):
            return self.by_set(head, name, self.sets[rest[0]]) if len(rest) == 1 and rest[0] in self.sets else NoRow
        if head in ("without", "keep"):
            if len(rest) != 1 or rest[0] not in map(str, range(self.n)):
                return NoRow
            return self.by_deed(name, (head, int(rest[0])))
        return self.by_name(head, name) if not rest else NoRow

    def start(self, name, family):
        if name in self.kept or len(self.kept) > 2:
            return NoRow
        self.kept[name] = [family]
        return "ok"

    def by_set(self, head, name, some):
        if head == "put":
            return self.by_deed(name, (head, some))
        asked = holds if head == "holds" else meets_all
        return "yes" if asked(self.kept[name][-1], bits(some)) else "no"

    def by_deed(self, name, deed):
        self.kept[name].append(became(self.kept[name][-1], deed))
        return self.counts(name)

    def counts(self, name):
        family = self.kept[name][-1]
        return f"{len(family[1])} {len(other_of(family)[1])}"

    def by_name(self, head, name):
        family = self.kept[name][-1]
        if head == "drop":
            del self.kept[name]
            return "ok"
        if head == "back":
            if len(self.kept[name]) < 2:
                return "none"
            self.kept[name].pop()
            return self.counts(name)
        if head in ("family", "other"):
            return listed(family if head == "family" else other_of(family))
        if head == "verdict":
            return verdict_word(family)
        if head == "even" and sum(self.weights) > 12:
            return TooMany
        return self.by_weights(head, family) if head in ("cheapest", "shared", "even") else NoRow

    def by_weights(self, head, family):
        cost = least_price(family, self.weights)
        if cost is None:
            return "none"
        if head == "cheapest":
            return str(cost)
        if head == "even":
            size = greatest_size(family, self.weights)
            return f"even {cost}" if size == cost else f"apart {cost} {size}"
        paper = shared_made(random.Random(1), family, self.weights)
        top, bottom = sum(count for member, count in paper[2]), paper[1]
        while any(top % by == 0 and bottom % by == 0 for by in range(2, bottom + 1)):
            by = next(by for by in range(2, bottom + 1) if top % by == 0 and bottom % by == 0)
            top, bottom = top // by, bottom // by
        return str(top) if bottom == 1 else f"{top}/{bottom}"


def heard(desk, row):
    """The answer of a desk, or the kind of its refusal, whose field is looked at."""
    try:
        answer = desk.say(row)
    except (NoRow, TooMany) as refused:
        if type(refused) is NoRow:
            assert refused.line == row and type(refused.line) is str
            return NoRow
        assert type(refused) is TooMany and refused.word == "weights"
        return TooMany
    assert type(answer) is str
    return answer


def state(desk):
    """All that rows which change nothing tell."""
    names = desk.say("names")
    told = [names]
    for name in names.split(" ") if names != "none" else []:
        told += [heard(desk, f"{head} {name}") for head in ("family", "other", "cheapest", "shared", "even")]
    return told


class Desks(unittest.TestCase):
    def play(self, n, rows):
        """The rows of a text told to a new desk, each with its answer behind an equals sign."""
        desk, model = Desk(n), Model(n)
        for line in rows.strip().split("\n"):
            row, due = [part.strip() for part in line.split("=")]
            self.assertEqual(heard(desk, row), {"NoRow": NoRow, "TooMany": TooMany}.get(due, due), row)
            self.assertEqual(model.say(row), {"NoRow": NoRow, "TooMany": TooMany}.get(due, due), row)
        return desk

    def refused(self, desk, row):
        """The row is refused with NoRow, and nothing changes."""
        ahead = state(desk)
        self.assertEqual(refusal(NoRow, desk.say, row).line, row)
        self.assertEqual(state(desk), ahead, row)

    def test_the_method_stands_in_the_class_itself(self):
        self.assertIn("say", vars(Desk))

    def test_names(self):
        self.play(3, """
            names = none
            new a = ok
            names = a
            new zzzz = ok
            names = a zzzz
            copy a put = ok
            names = a zzzz put
            drop a = ok
            names = zzzz put
            new a = ok
            names = zzzz put a
            drop zzzz = ok
            copy put zzzz = ok
            names = put a zzzz
            drop put = ok
            drop a = ok
            drop zzzz = ok
            names = none
            drop a = NoRow
        """)

    def test_names_that_are_words_of_rows(self):
        desk = Desk(2)
        for name in ["new", "copy", "drop", "put", "keep", "back", "dual", "even", "ok", "yes", "no", "nono", "non"]:
            self.assertEqual(desk.say(f"new {name}"), "ok")
            self.assertEqual(desk.say("names"), name)
            self.assertEqual(desk.say(f"put {name} 0"), "1 1")
            self.assertEqual(desk.say(f"drop {name}"), "ok")

    def test_new_and_copy_refused(self):
        desk = Desk(3)
        for name in ["abcde", "none", "A", "aB", "a1", "1", "-", "a-b", "a,b", "_", "", "~", "Abc", "nonee", "a.", "'"]:
            self.refused(desk, f"new {name}")
        desk.say("new a")
        desk.say("put a 0,1")
        for name in ["abcde", "none", "A", "b1", "", "-", "a"]:
            self.refused(desk, f"copy a {name}")
            self.refused(desk, f"copy b {name}")
        for row in ["new a", "copy a a", "copy b c", "copy none b", "copy a", "copy", "new", "new b c", "copy a b c",
                    "copy b a"]:
            self.refused(desk, row)
        desk.say("new b")
        desk.say("new c")
        for row in ["new d", "copy a d", "new a", "copy a b", "new abc"]:
            self.refused(desk, row)
        desk.say("drop b")
        self.assertEqual(desk.say("copy a d"), "ok")
        self.assertEqual(desk.say("names"), "a c d")

    def test_deeds(self):
        self.play(4, """
            new f = ok
            family f = family 4
            other f = family 4; -
            put f 0,1 = 1 2
            put f 2,3 = 2 4
            other f = family 4; 0,2; 0,3; 1,2; 1,3
            put f 0,1,2 = 2 4
            family f = family 4; 0,1; 2,3
            put f 1 = 2 2
            family f = family 4; 1; 2,3
            without f 3 = 1 1
            family f = family 4; 1
            back f = 2 2
            keep f 3 = 2 1
            family f = family 4; 1; 2
            other f = family 4; 1,2
            put f - = 1 0
            family f = family 4; -
            other f = family 4
            keep f 0 = 1 0
            without f 0 = 1 0
        """)

    def test_back(self):
        self.play(3, """
            new a = ok
            back a = none
            put a 0,1 = 1 2
            put a 1,2 = 2 2
            put a 0,1,2 = 2 2
            keep a 0 = 1 1
            copy a b = ok
            back b = none
            family b = family 3; 1
            back a = 2 2
            back a = 2 2
            family a = family 3; 0,1; 1,2
            back a = 1 2
            back a = 0 1
            family a = family 3
            other a = family 3; -
            back a = none
            back a = none
            put a 2 = 1 1
            back a = 0 1
            family b = family 3; 1
            drop b = ok
            copy a b = ok
            family b = family 3
        """)

    def test_back_turns_no_weights_and_refusals_are_no_deeds(self):
        desk = self.play(2, """
            new a = ok
            put a 0 = 1 1
            weigh 5 7 = ok
            put a 1 = 2 1
            cheapest a = 12
        """)
        for row in ["put a 2", "put a 0,0", "without a 2", "keep a -", "back b", "put b 0"]:
            self.refused(desk, row)
        self.assertEqual(desk.say("back a"), "1 1")
        self.assertEqual(desk.say("cheapest a"), "5")

    def test_copies_have_nothing_in_common(self):
        self.play(3, """
            new a = ok
            put a 0,1 = 1 2
            copy a b = ok
            put b 2 = 2 2
            family a = family 3; 0,1
            family b = family 3; 0,1; 2
            put a - = 1 0
            family b = family 3; 0,1; 2
            drop a = ok
            family b = family 3; 0,1; 2
            back b = 1 2
            back b = none
            new a = ok
            family a = family 3
            back a = none
        """)

    def test_questions(self):
        self.play(3, """
            new a = ok
            holds a 0,1,2 = no
            meets a - = yes
            put a 0,1 = 1 2
            holds a 0,1 = yes
            holds a 0,1,2 = yes
            holds a 0,2 = no
            holds a - = no
            meets a - = no
            meets a 2 = no
            meets a 1 = yes
            dual a a = parted
            new b = ok
            put b 0 = 1 1
            put b 1 = 2 1
            dual a b = dual
            dual b a = dual
            verdict a = look
            put a 1,2 = 2 2
            dual a b = parted
            put a 0,2 = 3 3
            dual a a = dual
            verdict a = bad
            put a - = 1 0
            verdict a = open
            holds a - = yes
            meets a 0,1,2 = no
            new c = ok
            dual a c = dual
            dual c a = dual
            dual c c = parted
            verdict c = look
        """)

    def test_weights(self):
        self.play(3, """
            new a = ok
            cheapest a = 0
            shared a = 0
            even a = even 0
            put a 0,1 = 1 2
            put a 1,2 = 2 2
            put a 0,2 = 3 3
            cheapest a = 2
            shared a = 3/2
            even a = apart 2 1
            weigh 2 2 2 = ok
            cheapest a = 4
            shared a = 3
            even a = apart 4 3
        """)
        self.play(3, """
            new a = ok
            put a 0,1 = 1 2
            weigh 0 9 99 = ok
            cheapest a = 0
            shared a = 0
            even a = TooMany
            weigh 10 2 0 = ok
            even a = even 2
            cheapest a = 2
            shared a = 2
            put a - = 1 0
            cheapest a = none
            shared a = none
            even a = none
            weigh 10 2 1 = ok
            cheapest a = none
            shared a = none
            even a = TooMany
            even b = NoRow
            even a a = NoRow
            even = NoRow
        """)

    def test_twelve_and_thirteen_together(self):
        for n, twelve, thirteen in [(1, "12", "13"), (2, "0 12", "12 1"), (3, "4 4 4", "4 4 5"), (4, "3 3 3 3", "3 3 3 4"),
                                    (5, "12 0 0 0 0", "12 0 0 0 1")]:
            desk = Desk(n)
            desk.say("new a")
            desk.say("new w")
            desk.say("put w -")
            desk.say("put a 0")
            desk.say(f"weigh {twelve}")
            self.assertEqual(desk.say("even a"), f"even {twelve.split()[0]}")
            self.assertEqual(desk.say("even w"), "none")
            desk.say(f"weigh {thirteen}")
            ahead = state(desk)
            for name in ("a", "w"):
                self.assertEqual(refusal(TooMany, desk.say, f"even {name}").word, "weights")
            for row in ["even b", "even", "even a a", "even a ", "even none"]:
                self.assertEqual(refusal(NoRow, desk.say, row).line, row)
            self.assertEqual(state(desk), ahead)
            self.assertEqual(desk.say("cheapest a"), thirteen.split()[0])
            self.assertEqual(desk.say("cheapest w"), "none")
            self.assertEqual(desk.say("shared a"), thirteen.split()[0])

    def test_great_weights(self):
        self.play(5, """
            new a = ok
            put a 0,1 = 1 2
            put a 1,2 = 2 2
            put a 2,3 = 3 3
            put a 3,4 = 4 4
            put a 0,4 = 5 5
            cheapest a = 3
            shared a = 5/2
            even a = apart 3 2
            weigh 99 99 99 99 99 = ok
            cheapest a = 297
            shared a = 495/2
            weigh 99 0 99 99 0 = ok
            cheapest a = 99
            shared a = 99
            verdict a = bad
        """)

    def test_no_places(self):
        desk = self.play(0, """
            new a = ok
            family a = family 0
            other a = family 0; -
            verdict a = look
            weigh = ok
            cheapest a = 0
            shared a = 0
            even a = even 0
            holds a - = no
            meets a - = yes
            put a - = 1 0
            family a = family 0; -
            verdict a = open
            cheapest a = none
            shared a = none
            even a = none
            back a = 0 1
            back a = none
            names = a
        """)
        for row in ["weigh 0", "weigh ", "weigh 1", "put a 0", "without a 0", "keep a 0", "without a", "keep a -",
                    "put a", "holds a 0"]:
            self.refused(desk, row)

    def test_rows_that_are_none(self):
        desk = Desk(3)
        for row in ["new a", "put a 0,1", "put a 2", "new b", "weigh 1 2 3"]:
            desk.say(row)
        for row in ["", " ", "  ", "new", "new ", " new c", "new  c", "new c ", "new c d", "New c", "NEW c", "news c", "ne c",
                    "names ", " names", "names a", "names  ", "Names", "name", "drop", "drop ", "drop c", "drop a b",
                    "drop none", "drop A", "put", "put a", "put a ", "put  a 0", "put a  0", "put a 0 ", "put a 0 1",
                    "put a 0,3", "put a 3", "put a 1,0", "put a 0,0", "put a 0,", "put a ,0", "put a 00", "put a 0;1",
                    "put a (0)", "put a --", "put a -1", "put a 0,,1", "put c 0", "put 0 a", "put a a", "put a +1",
                    "without a", "without a 3", "without a 00", "without a 01", "without a -", "without a -1",
                    "without a 0,1", "without a a", "without a 0 1", "without c 0", "without a +1", "without a 1.",
                    "keep a", "keep a 3", "keep a 02", "keep a 10", "keep a ", "keep a  1", "keep c 1", "keep 1",
                    "back", "back c", "back a a", "back ", "family", "family c", "family a b", "family 3", "other",
                    "other c", "other a ", "holds a", "holds a 3", "holds c 0", "holds a 0 1", "holds a 1,0", "meets a",
                    "meets c -", "meets a 0,3", "meets a -,-", "dual", "dual a", "dual a c", "dual c a", "dual a b a",
                    "dual a  b", "verdict", "verdict c", "verdict a b", "weigh", "weigh 1", "weigh 1 2", "weigh 1 2 3 4",
                    "weigh 1 2 100", "weigh 01 2 3", "weigh 1 00 3", "weigh 1 2 -3", "weigh 1 2 a", "weigh 1  2 3",
                    "weigh 1 2 3 ", " weigh 1 2 3", "weigh 1,2,3", "weigh 1 2 +3", "weigh 1 2 3.", "weigh 1 2 1000",
                    "weigh 1 2 099", "weigh 1 2 ", "weigh 1 2 99999999999999999999", "weigh 1 2 1_0", "cheapest",
                    "cheapest c", "cheapest a b", "shared", "shared c", "shared a a", "even", "even c", "even a b",
                    "a", "none", "ok", "names names", "new new new", "x" * 200, "~", "put a 0,1,2,3", "back a 1"]:
            self.refused(desk, row)
        self.assertEqual(desk.say("back a"), "1 2")
        self.assertEqual(desk.say("back a"), "0 1")
        self.assertEqual(desk.say("back a"), "none")

    def test_numbers_up_to_ninety_nine(self):
        desk = Desk(1)
        desk.say("new a")
        desk.say("put a 0")
        for weight in range(100):
            self.assertEqual(desk.say(f"weigh {weight}"), "ok")
            self.assertEqual(desk.say("cheapest a"), str(weight))
            self.assertEqual(desk.say("shared a"), str(weight))
            if weight < 10:
                self.refused(desk, f"weigh 0{weight}")
        self.refused(desk, "weigh 100")

    def test_two_desks_by_turns(self):
        one, other = Desk(3), Desk(3)
        self.assertEqual(one.say("new a"), "ok")
        self.assertEqual(other.say("names"), "none")
        self.refused(other, "put a 0")
        self.assertEqual(other.say("new a"), "ok")
        self.assertEqual(one.say("put a 0,1"), "1 2")
        self.assertEqual(other.say("family a"), "family 3")
        self.assertEqual(other.say("put a 2"), "1 1")
        self.assertEqual(one.say("weigh 5 5 5"), "ok")
        self.assertEqual(other.say("cheapest a"), "1")
        self.assertEqual(one.say("cheapest a"), "5")
        self.assertEqual(other.say("back a"), "0 1")
        self.assertEqual(other.say("back a"), "none")
        self.assertEqual(one.say("family a"), "family 3; 0,1")
        self.assertEqual(Desk(3).say("names"), "none")

    def test_rounds_and_their_verdicts(self):
        for k in (3, 4, 5):
            desk = Desk(k)
            desk.say("new ring")
            for member in round_of(k)[1]:
                desk.say(f"put ring {written(member)}")
            self.assertEqual(desk.say("family ring"), listed(round_of(k)))
            self.assertEqual(desk.say("verdict ring"), "look" if k == 4 else "bad")


def chance_rows(source, n):
    """Forty rows: first some that build a family, then any."""
    longer = [some for some in subsets(n) if len(some) in (2, 3)] or subsets(n)
    rows = ["new a"] + [f"put a {written(source.choice(longer))}" for count in range(source.randrange(12))]
    return rows + [chance_row(source, n) for count in range(40 - len(rows))]


def chance_row(source, n):
    """A row, nearly right or right."""
    names = ["a", "a", "a", "b", "b", "cd", "even", "put"]
    name = source.choice(names)
    head = source.choice(HEADS * 2 + ["put", "new", "copy", "even", "shared", "dual", "verdict"])
    some = written(source.choice(subsets(n) if source.randrange(3) else subsets(n)[n + 1:] or subsets(n)))
    words = {"copy": [name, source.choice(names)], "dual": [name, source.choice(names)], "names": [],
             "put": [name, some], "holds": [name, some], "meets": [name, some],
             "without": [name, str(source.randrange(n + 1))], "keep": [name, str(source.randrange(n + 1))],
             "weigh": [str(source.choice([0, 1, 1, 2, 2, 3, 3, 4, 99])) for place in range(n)]}.get(head, [name])
    row = [head] + words
    if source.randrange(12) == 0:
        at = source.randrange(len(row))
        row[at:at + source.randrange(2)] = [source.choice(["", "a", "0", "-", "00", "1,0", "9", "none", "A", "100"])]
    return " ".join(row)


class AtChance(unittest.TestCase):
    def test_forty_rows(self):
        source = random.Random(201)
        answers = set()
        for count in range(200):
            n = source.randrange(6)
            desk, model = Desk(n), Model(n)
            for row in chance_rows(source, n):
                told = heard(desk, row)
                self.assertEqual(told, model.say(row), (n, row, model.kept))
                answers.add((row.split(" ")[0], told if told in (NoRow, TooMany) else told.split(" ")[0]))
        for due in [("even", "even"), ("even", "apart"), ("even", TooMany), ("verdict", "bad"), ("dual", "dual"),
                    ("dual", "parted"), ("back", "none"), ("copy", NoRow), ("copy", "ok"), ("shared", "none")]:
            self.assertIn(due, answers)

    def test_refused_rows_change_nothing(self):
        source = random.Random(202)
        for count in range(25):
            n = source.randrange(6)
            desk, model = Desk(n), Model(n)
            for row in chance_rows(source, n):
                ahead = state(desk)
                if heard(desk, row) in (NoRow, TooMany):
                    self.assertEqual(state(desk), ahead)
                model.say(row)
                self.assertEqual(desk.say("names"), model.say("names"))
                for name in model.kept:
                    self.assertEqual(desk.say(f"family {name}"), listed(model.kept[name][-1]))
                    self.assertEqual(desk.say(f"other {name}"), listed(other_of(model.kept[name][-1])))

    def test_two_by_turns(self):
        source = random.Random(203)
        for count in range(20):
            n = source.randrange(6)
            pairs = [(Desk(n), Model(n)), (Desk(n), Model(n))]
            for turn in range(60):
                desk, model = source.choice(pairs)
                row = chance_row(source, n)
                self.assertEqual(heard(desk, row), model.say(row), (n, row))
