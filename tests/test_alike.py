"""Point 10: rows of scripts, and whether they turn all names alike."""

import unittest
from itertools import product

from namescripts.alike import is_row, turned_by, unlike
from namescripts.errors import NoName, NoRow
from namescripts.names import is_name
from namescripts.rules import turned
from tests.samples import (
    A, ANY, B, C, IS_A, LONG, MERGE, REST, SHIFT, SWAP, TOO_LONG, WHEEL, Sullen, ajar, closed, nested, odd_things, rename,
)
from tests.search import drawn_rows, short_names

F = [("field", number) for number in range(4)]
LEFT = (ajar([ANY], [], [REST, F[0]]),)
RIGHT = (ajar([], [ANY], [F[0], REST]),)
ADD = (ajar([], [], [("word", "x"), REST]),)
CUT = (ajar([("is", "x")], [ANY], [REST, F[1]]),)
DROP = (ajar([ANY, ANY], [], [F[1], REST]),)
GROW = (ajar([], [], [("word", "x"), REST, ("word", "y")]),)
ENDS = (ajar([ANY], [ANY], [F[1], REST, F[0]]),)
FLIP = (closed(ANY, ANY, making=[F[1], F[0]]),)
SAME = (ajar([], [ANY], [REST, F[0]]),)
FOUR = tuple(rename((word,), target) for word, target in zip("abcd", [B, C, ("d",), ("e",)]))
APART = (rename(A, ("p",)), rename(B, ("q",)), rename(C, ("r",)))


class RowCase(unittest.TestCase):
    def refused(self, error, call, *things):
        with self.assertRaises(error) as caught:
            call(*things)
        self.assertIs(caught.exception.__class__, error)

    def check(self, row, other, many):
        """What is told of both rows, either one first, has so many fields and shows it."""
        for one, two in [(row, other), (other, row)]:
            told = unlike(one, two)
            self.assertEqual(None if told is None else len(told), many, (one, two, told))
            if told is not None:
                self.assertIs(told.__class__, tuple)
                self.assertTrue(is_name(told))
                self.assertNotEqual(turned_by(one, told), turned_by(two, told))


class IsRow(unittest.TestCase):
    def test_rows_of_none_to_2_scripts(self):
        for many in range(5):
            self.assertIs(is_row((FOUR,) * many), many <= 2)
            self.assertIs(is_row(((),) * many), many <= 2)
        self.assertIs(is_row((SHIFT, ())), True)

    def test_no_rows(self):
        for thing in [[], [SHIFT], SHIFT, SHIFT[0], (SHIFT[0],), (SHIFT, None), (None, SHIFT), ((SHIFT,),), ((), ((),)),
                      (list(SHIFT),), (SHIFT * 3,), {SHIFT: 1}, {SHIFT}, None, "", (True,), iter((SHIFT,)), nested(tuple, 3)]:
            with self.subTest(thing=thing):
                self.assertIs(is_row(thing), False)

    def test_things_of_any_kind(self):
        for thing in odd_things():
            # A tuple with nothing in it is a script, so that a row may have nothing else.
            self.assertIs(is_row(thing), repr(thing) == "((),)")
            self.assertIs(is_row((SHIFT, thing)), False)
            self.assertIs(is_row((thing, SHIFT)), False)
            self.assertIs(is_row((thing, thing, thing)), False)


class TurnedBy(RowCase):
    def test_each_script_in_order(self):
        self.assertEqual(turned_by((SHIFT, SHIFT), A), C)
        self.assertEqual(turned_by((SHIFT, SWAP), A), A)
        self.assertEqual(turned_by((SWAP, SHIFT), A), C)
        self.assertEqual(turned_by((LEFT, ADD), ("a", "b")), ("x", "b", "a"))
        self.assertEqual(turned_by((ADD, LEFT), ("a", "b")), ("a", "b", "x"))

    def test_rows_of_none_and_of_one(self):
        for name in [A, ("q", "r"), LONG]:
            self.assertEqual(turned_by((), name), name)
            self.assertEqual(turned_by(((),), name), name)
            self.assertEqual(turned_by(((), ()), name), name)
            self.assertEqual(turned_by((GROW,), name), turned(GROW, name))

    def test_names_longer_than_30(self):
        self.assertEqual(turned_by((GROW, GROW), LONG), ("x", "x") + LONG + ("y", "y"))
        self.assertEqual(turned_by((GROW, ENDS), LONG), ("y",) + LONG + ("x",))
        self.assertEqual(turned_by((GROW, DROP), LONG), LONG + ("y",))


class Unlike(RowCase):
    def test_alike(self):
        for row in [(), (SHIFT,), (SHIFT, MERGE), (FOUR, FOUR), (LEFT,), (DROP, GROW)]:
            self.check(row, row, None)
            if len(row) < 2:
                self.check(row, row + ((),), None)
                self.check(row, ((),) + row, None)
        self.check((SAME,), (), None)
        self.check((SAME, SAME), ((),), None)
        self.check((APART,), (APART[::-1],), None)
        self.check((WHEEL, WHEEL), ((rename(A, C), rename(B, A), rename(C, B)),), None)

    def test_unlike(self):
        self.check((SHIFT,), (), 1)
        self.check((FLIP,), (), 2)
        self.check((LEFT,), (), 2)
        self.check((LEFT,), (RIGHT,), 3)
        self.check((LEFT,), (ENDS,), 3)
        self.check((LEFT,), (FLIP,), 3)
        self.check((LEFT, LEFT), (), 3)
        self.check((DROP,), (), 2)
        self.check((SHIFT,), (SHIFT[::-1],), None)
        self.check((SHIFT + MERGE,), (MERGE + SHIFT,), 1)

    def test_one_undoes_the_other(self):
        self.check((LEFT, RIGHT), (), None)
        self.check((RIGHT, LEFT), (), None)
        self.check((ENDS, ENDS), (), None)
        self.check((SWAP, SWAP), (), None)
        self.check((FLIP, FLIP), (), None)
        self.check((SHIFT, SHIFT[::-1]), (), 1)
        self.check((ADD, CUT), (), None)
        self.check((CUT, ADD), (), 1)
        self.check((ADD, DROP), (), None)
        self.check((DROP, ADD), (), 1)

    def test_the_order_of_two_does_not_matter(self):
        behind = (ajar([], [], [REST, ("word", "y")]),)
        self.check((ADD, behind), (behind, ADD), None)
        self.check((ADD, LEFT), (LEFT, ADD), 1)
        self.check((APART[:1], APART[1:]), (APART[1:], APART[:1]), None)
        self.check((SHIFT[:1], SHIFT[1:]), (SHIFT[1:], SHIFT[:1]), 1)
        self.check((LEFT, RIGHT), (RIGHT, LEFT), None)
        self.check((LEFT, ENDS), (ENDS, LEFT), 3)

    def test_long_names(self):
        far = (ajar([ANY, ANY], [ANY, ANY], [F[0], REST, F[3]]),)
        self.check((far,), (), 4)
        self.check((far, far), (far,), 6)
        inner = (ajar([ANY, ANY], [ANY], [F[0], F[1], REST, F[2]]),)
        self.check((inner,), (), None)
        # All that stands between four fields at each end is dropped by two in turn.
        outer = (ajar([ANY, ANY], [ANY, ANY], F),)
        self.check((outer,), (), 5)
        swirl = (ajar([ANY, ANY], [ANY, ANY], [F[2], F[3], REST, F[1]]),)
        self.check((swirl, swirl), (swirl, far), 5)
        rules = (
            ajar([ANY, IS_A], [("like", 1)], [REST, F[0], F[0]]),
            ajar([("none", ("a",)), ANY], [ANY, ANY], [F[2], REST]), ajar([ANY, ("like", 0)], [], [F[1], REST]),
        )
        trim = (ajar([ANY, ANY], [ANY, ANY], [F[0], REST]),)
        self.check((trim, rules), (trim, (rules[1], rules[2], rules[0])), 7)

    def test_words_and_likes(self):
        self.check(((closed(IS_A),),), ((closed(("is", "b")),),), 1)
        self.check(((closed(("none", ("a",))), closed(IS_A)),), ((closed(ANY),),), None)
        self.check(((closed(("none", ("a",))), closed(IS_A, making=[("word", "y")])),), ((closed(ANY),),), 1)
        double = (ajar([ANY], [("like", 0)], [F[1], REST, F[0]]),)
        self.check((double,), (), None)
        self.check((double + ENDS,), (ENDS,), None)
        self.check((double,), (ENDS,), 2)
        across = (ajar([ANY, ANY], [("like", 1), ("like", 0)], [F[3], F[2], REST]),)
        self.check((across,), (), 4)

    def test_names_told_may_have_any_words(self):
        row = ((closed(("none", ("a", "b", "c"))),),)
        self.check(row, (), 1)
        self.assertNotIn(unlike(row, ())[0], ["a", "b", "c", "x"])

    def test_drawn_rows_against_a_plain_search(self):
        alike = 0
        for row, other, words in drawn_rows(10, 500):
            told = unlike(row, other)
            self.check(row, other, None if told is None else len(told))
            alike += told is None and row != other
            for name in short_names(words, None if told is None else len(told) - 1):
                if turned_by(row, name) != turned_by(other, name):
                    self.fail((row, other, told, name))
        self.assertGreater(alike, 50)

    def test_all_small_scripts_against_a_plain_search(self):
        rules = [closed(test, making=[item]) for test, item in product([ANY, IS_A], [("word", "b"), F[0]])]
        rules += [ajar([test], [], [item, REST][::way]) for test in [ANY, IS_A] for item in F[:1] for way in (1, -1)]
        rules += [ajar([], [test], [REST, F[0]][::way]) for test in [ANY, IS_A] for way in (1, -1)]
        names = list(short_names(["a", "b", "x"], 4))
        for one, two in product(rules, rules):
            for row, other in [(((one,), (two,)), ((two,), (one,))), (((one, two),), ((two,),)), (((one,), (two,)), ())]:
                sizes = [len(name) for name in names if turned_by(row, name) != turned_by(other, name)]
                self.check(row, other, min(sizes, default=None))


class Refusals(RowCase):
    def test_no_row(self):
        wrong = [SHIFT, [SHIFT], (SHIFT,) * 3, (SHIFT, None), SHIFT[0]]
        for thing in wrong + [thing for thing in odd_things() if not is_row(thing)]:
            for name in [A, thing, None, Sullen()]:
                self.refused(NoRow, turned_by, thing, name)
            for row in [(), (SHIFT,), thing]:
                self.refused(NoRow, unlike, row, thing)
                self.refused(NoRow, unlike, thing, row)

    def test_no_name(self):
        for thing in odd_things() + [(), ["a"], "a", TOO_LONG]:
            for row in [(), (SHIFT,), (GROW, ENDS)]:
                self.refused(NoName, turned_by, row, thing)

    def test_true_and_false_are_no_numbers_within_rows(self):
        row = ((closed(ANY, ANY, making=[("field", True)]),),)
        self.refused(NoRow, turned_by, row, A)
        self.refused(NoRow, unlike, row, ())
        self.refused(NoRow, unlike, (), row)


class NothingIsChanged(RowCase):
    def test_equal_things_give_equal_answers(self):
        pairs = [((LEFT, RIGHT), ()), ((SHIFT,), ()), ((LEFT,), (ENDS,)), ((SHIFT, SWAP), (SWAP, SHIFT))]
        before = [(unlike(*pair), turned_by(pair[0], ("a", "b"))) for pair in pairs]
        self.refused(NoRow, unlike, [SHIFT], ())
        again = [
            (unlike(tuple(list(row)), tuple(list(other))), turned_by(tuple(list(row)), ("a", "b")))
            for row, other in pairs[::-1]
        ]
        self.assertEqual(again[::-1], before)

    def test_lists_that_are_refused_stay(self):
        row, name = [[list(SHIFT[0])]], ["a"]
        self.refused(NoRow, turned_by, row, name)
        self.refused(NoRow, unlike, row, ())
        self.refused(NoName, turned_by, (SHIFT,), name)
        self.assertEqual((row, name), ([[list(SHIFT[0])]], ["a"]))


if __name__ == "__main__":
    unittest.main()
