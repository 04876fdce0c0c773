"""Point 2: words, names and folders."""

import unittest

from namescripts.names import is_folder, is_name
from tests.samples import A, B, LONG, TOO_LONG, Sullen, odd_things


def rising(many):
    """A folder of so many names."""
    letters = "abcdefghijklmnopqrstuvwxyz"
    return tuple(sorted((letters[k % 26], letters[k // 26]) for k in range(many)))


class Names(unittest.TestCase):
    def test_words_of_1_to_6_letters(self):
        for word in ["a", "z", "az", "abc", "abcd", "abcde", "abcdef", "zzzzzz"]:
            with self.subTest(word=word):
                self.assertIs(is_name((word,)), True)

    def test_no_words(self):
        signs = ["`", "{", "A", "Z", "0", "_", "-", " ", ".", "\n", "\u00e9", "\u00df", "\u0430", "\ud800"]
        for word in ["", "abcdefg"] + signs + ["a" + sign for sign in signs] + [sign + "a" for sign in signs]:
            with self.subTest(word=word):
                self.assertIs(is_name((word,)), False)
                self.assertIs(is_name(("a", word)), False)
                self.assertIs(is_name((word, "a")), False)

    def test_names_of_1_to_30_fields(self):
        for many in range(1, 31):
            self.assertIs(is_name(("a",) * many), True)
        self.assertIs(is_name(("b", "a", "b")), True)

    def test_no_names(self):
        for thing in [(), TOO_LONG, LONG * 2, ["a"], "a", {"a": 1}, {"a"}, (("a",),), (1,), (b"a",), b"a", (None,)]:
            with self.subTest(thing=thing):
                self.assertIs(is_name(thing), False)

    def test_a_wrong_field_anywhere_is_seen(self):
        for at in range(30):
            self.assertIs(is_name(LONG[:at] + ("A",) + LONG[at + 1:]), False)

    def test_things_of_any_kind(self):
        for thing in odd_things():
            self.assertIs(is_name(thing), False)
            self.assertIs(is_name(("a", thing)), False)


class Folders(unittest.TestCase):
    def test_folders_of_none_to_30_names(self):
        for many in range(31):
            self.assertIs(is_folder(rising(many)), True)

    def test_31_names_are_too_many(self):
        self.assertIs(is_folder(rising(31)), False)

    def test_names_of_30_fields_and_no_more(self):
        self.assertIs(is_folder((LONG,)), True)
        self.assertIs(is_folder((TOO_LONG,)), False)

    def test_rising_means_field_by_field(self):
        self.assertIs(is_folder((("a",), ("a", "a"), ("a", "b"), ("aa",), ("b",))), True)
        self.assertIs(is_folder((("a",), ("b",), ("a", "a"))), False)

    def test_not_rising_or_not_unlike(self):
        for thing in [(B, A), (A, A), (A, B, B), (A, A, B), (("b",), ("a",), ("c",)), (A, ("c",), B)]:
            with self.subTest(thing=thing):
                self.assertIs(is_folder(thing), False)

    def test_no_folders(self):
        for thing in [[A], {A: 1}, {A}, "a", ("a",), (["a"],), (A, "b"), (A, ()), ((),), None, iter([A])]:
            with self.subTest(thing=thing):
                self.assertIs(is_folder(thing), False)

    def test_things_of_any_kind(self):
        for thing in odd_things():
            self.assertIs(is_folder(thing), False)
            self.assertIs(is_folder((A, thing)), False)
            self.assertIs(is_folder((thing, A)), False)
            self.assertIs(is_folder((thing, thing)), False)


class NothingIsChanged(unittest.TestCase):
    def test_lists_stay_as_they_are(self):
        thing = [["b"], ["a"]]
        for call in (is_name, is_folder):
            call(thing)
            call(tuple(thing))
            self.assertEqual(thing, [["b"], ["a"]])

    def test_equal_things_give_equal_answers(self):
        for thing in [A, (), TOO_LONG, (A, B), (B, A)]:
            for call in (is_name, is_folder):
                before = call(thing)
                call((Sullen(),))
                self.assertIs(call(tuple(list(thing))), before)


if __name__ == "__main__":
    unittest.main()
