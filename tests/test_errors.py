"""[2] The refusals: made of their fields, kept as they are, each under the one base."""

import unittest

from beatplans.errors import NoPaper, NoRing, NoRow, NoText, PlanError, TooMany
from tests.helpers import plain_things

FIELDS = (
    (NoPaper, ("word", "at")),
    (TooMany, ("word",)),
    (NoRing, ("word",)),
    (NoText, ("row", "word")),
    (NoRow, ("row",)),
)


class Errors(unittest.TestCase):

    def test_fields_are_the_very_things_in_their_order(self):
        for refusal, names in FIELDS:
            for thing in plain_things():
                others = [[thing], {"x": thing}]
                handed = [thing] + others[:len(names) - 1]
                made = refusal(*handed)
                for name, field in zip(names, handed):
                    self.assertIs(getattr(made, name), field)

    def test_fields_by_their_order_alone(self):
        made = NoPaper("bar", 7)
        self.assertEqual((made.word, made.at), ("bar", 7))
        made = NoText(3, 4)
        self.assertEqual((made.row, made.word), (3, 4))

    def test_things_are_not_looked_at_or_changed(self):
        for refusal, names in FIELDS:
            for thing in plain_things():
                shown = repr(thing)
                refusal(*[thing for _ in names])
                self.assertEqual(repr(thing), shown)

    def test_a_truth_stays_a_truth(self):
        self.assertIs(NoPaper(True, False).word, True)
        self.assertIs(NoPaper(True, False).at, False)
        self.assertIs(type(NoPaper("x", 1).at), int)

    def test_who_stands_under_whom(self):
        self.assertTrue(issubclass(PlanError, ValueError))
        for refusal, _ in FIELDS:
            self.assertTrue(issubclass(refusal, PlanError))
            for other, _ in FIELDS:
                self.assertEqual(issubclass(refusal, other), refusal is other)
        self.assertEqual(len({refusal for refusal, _ in FIELDS} | {PlanError}), 6)

    def test_the_base_is_made_of_a_text(self):
        with self.assertRaises(ValueError) as taken:
            raise PlanError("no such thing")
        self.assertIs(type(taken.exception), PlanError)

    def test_each_is_taken_by_the_base(self):
        for refusal, names in FIELDS:
            with self.assertRaises(PlanError) as taken:
                raise refusal(*["x" for _ in names])
            self.assertIs(type(taken.exception), refusal)

    def test_two_made_alike_have_their_own_fields(self):
        one, other = NoRow("x"), NoRow("y")
        self.assertEqual((one.row, other.row), ("x", "y"))


if __name__ == "__main__":
    unittest.main()
