"""The error classes of the interface."""

import unittest

from namescripts import errors

PLAIN = [
    "NoName", "NoRule", "NoScript", "NoFolder", "NoOrder", "Ringed", "NoNumber", "NoRow",
    "NoWord", "Taken", "NotThere", "Full", "TooLong", "NoDeed", "NoText",
]
TELLING = ["Clash", "Lost"]


class Errors(unittest.TestCase):
    def test_turn_error_is_a_value_error(self):
        self.assertEqual(errors.TurnError.__bases__, (ValueError,))

    def test_all_stand_under_it_and_none_under_another(self):
        for word in PLAIN + TELLING:
            with self.subTest(word=word):
                self.assertEqual(getattr(errors, word).__bases__, (errors.TurnError,))

    def test_all_are_defined_in_the_file(self):
        for word in PLAIN + TELLING + ["TurnError"]:
            with self.subTest(word=word):
                self.assertEqual(getattr(errors, word).__module__, "namescripts.errors")
                self.assertEqual(getattr(errors, word).__name__, word)

    def test_plain_ones_take_a_wording(self):
        for word in PLAIN + ["TurnError"]:
            with self.subTest(word=word):
                self.assertEqual(str(getattr(errors, word)("why")), "why")

    def test_what_is_told_is_a_field(self):
        self.assertEqual(errors.Clash((("a",), ("b",))).told, (("a",), ("b",)))
        self.assertEqual(errors.Lost(3).told, 3)
        self.assertEqual(vars(errors.Lost(3)), {"told": 3})


if __name__ == "__main__":
    unittest.main()
