"""[2]: the refusals."""

import unittest

from rivalsets.errors import NoPaper, NoRow, NoSteps, NoText, RivalError, TooMany

FIELDS = [
    (NoPaper, ("word", "number")),
    (NoText, ("row", "word")),
    (NoSteps, ("word", "number")),
    (TooMany, ("word",)),
    (NoRow, ("line",)),
]


def plain_things():
    return ["shape", -1, 0, True, None, "", 10 ** 3999, -10 ** 3999, [], [1, [2]], (), ((), []), ["x"] * 300]


class Refusals(unittest.TestCase):
    def test_each_is_straight_under_the_base(self):
        for kind, names in FIELDS:
            self.assertEqual(kind.__bases__, (RivalError,))
        self.assertEqual(RivalError.__bases__, (ValueError,))

    def test_none_is_under_another(self):
        for kind, names in FIELDS:
            for other, others in FIELDS:
                self.assertEqual(issubclass(kind, other), kind is other)

    def test_base_is_made_of_a_text(self):
        self.assertEqual(str(RivalError("no such thing")), "no such thing")

    def test_keeps_the_very_things_in_their_order(self):
        things = plain_things()
        for kind, names in FIELDS:
            for at in range(len(things)):
                told = [things[(at + step) % len(things)] for step in range(len(names))]
                refused = kind(*told)
                for name, thing in zip(names, told):
                    self.assertIs(getattr(refused, name), thing)

    def test_looks_at_nothing(self):
        class Shy:
            def __getattribute__(self, name):
                raise AssertionError(name)

            def __repr__(self):
                raise AssertionError("shown")

            __str__ = __eq__ = __hash__ = __len__ = __bool__ = __iter__ = __repr__

        for kind, names in FIELDS:
            told = [Shy() for name in names]
            refused = kind(*told)
            str(refused)
            for name, thing in zip(names, told):
                self.assertIs(getattr(refused, name), thing)

    def test_is_made_of_just_its_fields(self):
        for kind, names in FIELDS:
            for many in range(4):
                if many != len(names):
                    with self.assertRaises(TypeError):
                        kind(*["x"] * many)

    def test_can_be_raised_and_caught_by_its_base(self):
        for kind, names in FIELDS:
            for caught in (kind, RivalError, ValueError):
                with self.assertRaises(caught):
                    raise kind(*["x"] * len(names))
