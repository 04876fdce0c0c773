"""Points 3 to 5: tests, rules, makings and scripts."""

import re
import unittest
from itertools import product

from namescripts.errors import NoName, NoRule, NoScript
from namescripts.rules import first, fits, is_rule, is_script, makes, turned
from tests.samples import (
    A, ANY, B, C, IS_A, IS_B, LONG, REST, SHIFT, TOO_LONG, X, Sullen, names_over, nested, odd_things, rename, swaps,
)


def closed(*fronts, making=X):
    """As in the samples, but with a making that may be anything."""
    return (fronts, False, (), making)


def ajar(fronts, backs, making=X):
    return (tuple(fronts), True, tuple(backs), making)


BIG = (
    (("any",), ("none", ("a", "b", "c"))), True, (("is", "abcdef"), ("like", 0)),
    (("rest",), ("field", 3), ("word", "zzzzzz"), ("field", 0)),
)


class IsRule(unittest.TestCase):
    def right(self, *things):
        for thing in things:
            with self.subTest(thing=thing):
                self.assertIs(is_rule(thing), True)

    def wrong(self, *things):
        for thing in things:
            with self.subTest(thing=thing):
                self.assertIs(is_rule(thing), False)

    def test_rules(self):
        self.right(BIG, closed(IS_A), closed(ANY, ANY), ajar([], []), ajar([ANY], []), ajar([], [ANY]),
                   ajar([ANY, ANY], [ANY, ANY]), ajar([], [ANY, ANY]), ajar([ANY, ANY], []))

    def test_four_parts(self):
        self.wrong((), BIG[:3], BIG + ((),), BIG + (True,), list(BIG), (BIG,), "rule", None, {})

    def test_words_of_tests(self):
        self.right(closed(("is", "a")), closed(("is", "abcdef")))
        self.wrong(closed(("is", "")), closed(("is", "abcdefg")), closed(("is", "A")), closed(("is", ("a",))),
                   closed(("is", 1)), closed(("is", None)))

    def test_forms_of_tests(self):
        self.wrong(closed(("is",)), closed(("is", "a", "a")), closed(("any", "a")), closed(("any", 0)),
                   closed(("none",)), closed(("none", "a")), closed(("none", "a", "b")), closed(("like",)),
                   closed(ANY, ("like", 0, 0)), closed(()), closed(("not", "a")), closed(("Is", "a")), closed("any"),
                   closed(["any"]), closed(["is", "a"]), closed(("word", "a")), closed(("rest",)), closed(("field", 0)),
                   closed((b"any",)), closed((None,)), closed(ANY, ("field", 0)))

    def test_none_has_1_to_3_rising_unlike_words(self):
        self.right(closed(("none", ("a",))), closed(("none", ("a", "b"))), closed(("none", ("a", "aa", "abcdef"))))
        self.wrong(closed(("none", ())), closed(("none", ("a", "b", "c", "d"))), closed(("none", ("b", "a"))),
                   closed(("none", ("a", "a"))), closed(("none", ("a", "b", "b"))), closed(("none", ("a", "c", "b"))),
                   closed(("none", ["a"])), closed(("none", ("A",))), closed(("none", ("",))),
                   closed(("none", ("abcdefg",))), closed(("none", ("a", 1))), closed(("none", {"a": 1})))

    def test_like_has_the_number_of_a_test_ahead(self):
        any_four = [ANY, ANY, ANY, ANY]
        for at in range(4):
            for number in range(-2, 6):
                tests = any_four[:at] + [("like", number)] + any_four[at + 1:]
                with self.subTest(at=at, number=number):
                    self.assertIs(is_rule(ajar(tests[:2], tests[2:])), 0 <= number < at)

    def test_like_counts_the_fronts_that_there_are(self):
        self.right(ajar([], [ANY, ("like", 0)]), ajar([ANY], [("like", 0)]), ajar([ANY], [("like", 0), ("like", 1)]))
        self.wrong(ajar([], [("like", 0)]), ajar([ANY], [("like", 1)]), ajar([], [ANY, ("like", 1)]))

    def test_true_and_false_are_no_numbers(self):
        self.right(ajar([ANY, ANY], [("like", 0)]), ajar([ANY, ANY], [("like", 1)]))
        self.wrong(ajar([ANY, ANY], [("like", False)]), ajar([ANY, ANY], [("like", True)]),
                   ajar([ANY, ANY], [], (("field", False),)), ajar([ANY, ANY], [], (("field", True),)),
                   closed(ANY, ("like", False)), closed(ANY, ANY, making=(("field", True),)))

    def test_up_to_two_fronts_and_two_backs(self):
        self.wrong(ajar([ANY] * 3, []), ajar([], [ANY] * 3), closed(ANY, ANY, ANY))

    def test_open_is_true_or_false(self):
        for other in [1, 0, None, "", "yes", (), (True,), Sullen()]:
            self.wrong(((ANY,), other, (), X))

    def test_one_that_is_not_open_has_one_front_or_two_and_no_backs(self):
        self.wrong(((), False, (), X), ((ANY,), False, (ANY,), X), ((), False, (ANY,), X), ((ANY, ANY), False, (ANY,), X))

    def test_sides_are_tuples(self):
        self.wrong(([ANY], True, (), X), ((), True, [ANY], X), ([ANY], False, (), X), ((ANY,), False, [], X),
                   (ANY, False, (), X), ("", True, (), X), ({}, True, (), X), (None, True, (), X), ((), True, None, X))

    def test_makings_of_1_to_4_items(self):
        for many in range(7):
            self.assertIs(is_rule(closed(ANY, making=X * many)), 1 <= many <= 4)
            self.assertIs(is_rule(ajar([], [], (REST,) + X * many)), 1 <= many <= 3)

    def test_makings_are_tuples_of_items(self):
        for making in [None, [("word", "x")], ("word", "x"), "x", (["word", "x"],), ("rest",), {}, ((),), ("x",)]:
            self.wrong(closed(ANY, making=making), ajar([ANY], [], making))

    def test_forms_of_items(self):
        for item in [("word",), ("word", "x", "y"), ("word", ""), ("word", "abcdefg"), ("word", 0), ("word", ("x",)),
                     ("field",), ("field", "x"), ("field", 0, 0), ("field", None), ("is", "x"), ("any",), ("like", 0),
                     ("none", ("x",)), (b"word", "x"), (0,)]:
            self.wrong(ajar([ANY], [], (item,)), ajar([ANY], [], X + (item,)), ajar([ANY], [], (item,) + X))
        for item in [("rest", 0), ("rest", "x"), ("rest", None)]:
            self.wrong(ajar([ANY], [], X + (item,)))

    def test_fields_have_the_number_of_a_test(self):
        for fronts, backs in product(range(3), range(3)):
            for number in range(-2, 7):
                making = (("field", number),)
                rule = ajar([ANY] * fronts, [ANY] * backs, making)
                self.assertIs(is_rule(rule), 0 <= number < fronts + backs)
                if fronts > 0 and backs == 0:
                    self.assertIs(is_rule(closed(*[ANY] * fronts, making=making)), 0 <= number < fronts)

    def test_one_rest_at_most_in_an_open_rule(self):
        self.right(ajar([], [], (REST,) + X), ajar([], [], X + (REST,)), ajar([], [], X + (REST,) + X),
                   ajar([ANY], [], (("field", 0), REST)))
        self.wrong(ajar([], [], (REST, REST) + X), ajar([], [], (REST,) + X + (REST,)), ajar([], [], X + (REST,) * 3),
                   closed(ANY, making=X + (REST,)), closed(ANY, ANY, making=(REST, ("field", 0))))

    def test_one_item_at_least_is_no_rest(self):
        self.wrong(ajar([], [], (REST,)), ajar([ANY], [], (REST,)), ajar([], [], (REST, REST)), closed(ANY, making=(REST,)))

    def test_words_may_be_called_as_tests_and_items_are(self):
        for word in ["is", "any", "none", "like", "word", "field", "rest", "open"]:
            self.right(closed(("is", word), making=(("word", word),)), ajar([("none", (word,))], [], (("word", word), REST)))
            self.assertEqual(makes(closed(("is", word), making=(("word", word),) * 2), (word,)), (word, word))
            self.assertEqual(makes(ajar([("is", word)], [], (REST, ("word", word))), (word, "a")), ("a", word))
            self.assertIsNone(makes(ajar([("none", (word,))], []), (word, "a")))

    def test_things_of_any_kind(self):
        odd = odd_things()
        self.wrong(*odd)
        for thing in swaps(BIG, odd):
            self.assertIs(is_rule(thing), False)


class IsScript(unittest.TestCase):
    def test_scripts_of_none_to_4_rules(self):
        for many in range(7):
            self.assertIs(is_script((BIG,) * many), many <= 4)

    def test_no_scripts(self):
        for thing in [[BIG], [], BIG, (BIG, None), (None, BIG), ((),), (BIG[:3],), (BIG, (BIG,)), None, "", {}, set(),
                      (closed(ANY, ANY, ANY),), (BIG, BIG, BIG, closed(("like", 0)))]:
            with self.subTest(thing=thing):
                self.assertIs(is_script(thing), False)

    def test_things_of_any_kind(self):
        for thing in odd_things():
            self.assertIs(is_script(thing), False)
            self.assertIs(is_script((BIG, thing)), False)
            self.assertIs(is_script((thing, BIG)), False)


class Fits(unittest.TestCase):
    def check(self, rule, right, wrong):
        for name in right:
            with self.subTest(rule=rule, name=name):
                self.assertIs(fits(rule, name), True)
        for name in wrong:
            with self.subTest(rule=rule, name=name):
                self.assertIs(fits(rule, name), False)
                self.assertIsNone(makes(rule, name))

    def test_closed_rules_have_just_as_many_fields(self):
        self.check(closed(ANY), [A, B, ("abcdef",)], [("a", "a"), ("a", "b", "c"), LONG])
        self.check(closed(ANY, ANY), [("a", "a"), ("a", "b")], [A, ("a", "b", "c"), LONG])

    def test_open_rules_have_as_many_fields_or_more(self):
        for fronts, backs in product(range(3), range(3)):
            for many in range(1, 31):
                self.assertIs(fits(ajar([ANY] * fronts, [ANY] * backs), ("a",) * many), many >= fronts + backs)

    def test_is(self):
        self.check(closed(IS_A), [A], [B, ("aa",), ("a", "a")])
        self.check(closed(IS_A, IS_B), [("a", "b")], [("b", "a"), ("a", "a"), ("b", "b"), A, ("a", "b", "c")])

    def test_none_with_1_and_3_words(self):
        self.check(closed(("none", ("b",))), [A, C, ("bb",)], [B])
        self.check(closed(("none", ("a", "b", "d"))), [C, ("ab",)], [A, B, ("d",)])

    def test_like(self):
        self.check(closed(ANY, ("like", 0)), [("a", "a"), ("b", "b")], [("a", "b"), ("a", "aa")])
        four = ajar([ANY, ANY], [("like", 1), ("like", 0)])
        self.check(four, [("a", "b", "b", "a"), ("a", "b", "c", "b", "a"), ("a",) * 4],
                   [("a", "b", "a", "b"), ("a", "b", "a"), ("a", "b", "b", "c")])
        self.check(ajar([], [ANY, ("like", 0)]), [("a", "a"), ("c", "b", "b")], [A, ("b", "b", "c"), ("a", "b")])
        self.check(ajar([ANY, ("like", 0)], [("like", 1), ("like", 2)]), [LONG, ("a",) * 4], [("a", "a", "a", "b")])

    def test_like_of_a_back(self):
        self.check(ajar([ANY], [ANY, ("like", 1)]), [("a", "b", "b"), ("a", "c", "b", "b")], [("a", "b", "a")])

    def test_fronts_look_at_the_first_and_backs_at_the_last(self):
        self.check(ajar([IS_A, IS_B], []), [("a", "b"), ("a", "b", "c")], [("c", "a", "b"), ("b", "a"), A])
        self.check(ajar([], [IS_A, IS_B]), [("a", "b"), ("c", "a", "b")], [("a", "b", "c"), ("b", "a"), B])
        self.check(ajar([IS_A], [IS_B]), [("a", "b"), ("a", "c", "b")], [A, B, ("b", "a"), ("b", "a", "b", "a")])
        self.check(ajar([IS_A], [IS_A]), [("a", "a"), ("a", "b", "a")], [A])

    def test_an_open_rule_without_tests_fits_all(self):
        self.check(ajar([], []), [A, ("a", "b"), LONG], [])


class Makes(unittest.TestCase):
    def check(self, rule, name, made):
        with self.subTest(rule=rule, name=name):
            self.assertEqual(makes(rule, name), made)

    def test_words_fields_and_the_rest_in_order(self):
        rule = ajar([ANY, ANY], [ANY, ANY], (("field", 3), ("word", "x"), REST, ("field", 0)))
        self.check(rule, ("a", "b", "c", "d", "e", "f"), ("f", "x", "c", "d", "a"))
        self.check(rule, ("a", "b", "c", "d"), ("d", "x", "a"))

    def test_each_field(self):
        for number in range(4):
            rule = ajar([ANY, ANY], [ANY, ANY], (("field", number),))
            self.check(rule, ("a", "b", "r", "s", "c", "d"), ("abcd"[number],))

    def test_items_may_come_again(self):
        self.check(closed(ANY, making=(("field", 0),) * 4), B, ("b",) * 4)
        self.check(closed(IS_A, making=X * 4), A, ("x",) * 4)

    def test_a_rest_of_no_fields(self):
        self.check(ajar([ANY], [], (REST, ("field", 0))), A, A)
        self.check(ajar([], [ANY], (("field", 0), REST)), A, A)
        self.check(ajar([IS_A], [IS_B], (("word", "x"), REST, ("word", "y"))), ("a", "b"), ("x", "y"))

    def test_the_rest_is_what_stands_between(self):
        for fronts, backs in product(range(3), range(3)):
            name = tuple("abcdefgh")
            rule = ajar([ANY] * fronts, [ANY] * backs, (REST,) + X)
            self.check(rule, name, name[fronts:8 - backs] + ("x",))

    def test_made_names_may_have_more_than_30_fields(self):
        rule = ajar([], [], (("word", "x"), REST, ("word", "y"), ("word", "z")))
        self.check(rule, LONG, ("x",) + LONG + ("y", "z"))
        self.assertEqual(turned((rule,), LONG), ("x",) + LONG + ("y", "z"))

    def test_none_where_it_does_not_fit(self):
        self.check(closed(IS_A), B, None)
        self.check(closed(ANY), ("a", "a"), None)
        self.check(ajar([ANY], [ANY]), A, None)


class Scripts(unittest.TestCase):
    def test_the_first_rule_that_fits_turns(self):
        script = (closed(IS_A, making=(("word", "p"),)), closed(ANY, making=(("word", "q"),)),
                  ajar([IS_A], [], (("word", "r"),)), ajar([], [ANY], (("word", "s"), ("field", 0))))
        for name, number, target in [(A, 0, ("p",)), (B, 1, ("q",)), (("a", "b"), 2, ("r",)), (("b", "a"), 3, ("s", "a"))]:
            with self.subTest(name=name):
                self.assertEqual(first(script, name), number)
                self.assertEqual(turned(script, name), target)

    def test_a_name_that_no_rule_fits_stays(self):
        for script in [(), SHIFT, (closed(IS_B),) * 4]:
            for name in [C, ("a", "a"), LONG]:
                self.assertIsNone(first(script, name))
                self.assertEqual(turned(script, name), name)

    def test_a_name_is_turned_once(self):
        self.assertEqual(turned(SHIFT, A), B)
        self.assertEqual(turned(SHIFT, B), C)

    def test_a_rule_that_makes_the_name_itself_is_first_all_the_same(self):
        script = (rename(A, A), rename(A, B))
        self.assertEqual(first(script, A), 0)
        self.assertEqual(turned(script, A), A)

    def test_numbers_of_four_rules(self):
        script = tuple(rename((word,), B) for word in "pqrs")
        self.assertEqual([first(script, (word,)) for word in "pqrst"], [0, 1, 2, 3, None])


def pattern_of(rule):
    """The rule as a regular expression over a name whose fields each end in a blank."""
    fronts, is_open, backs, _ = rule
    rows = []
    for number, test in enumerate(fronts + backs):
        if test[0] == "is":
            row = test[1]
        elif test[0] == "any":
            row = "[a-z]+"
        elif test[0] == "none":
            row = "(?!(?:" + "|".join(test[1]) + ") )[a-z]+"
        else:
            row = f"(?P=t{test[1]})"
        rows.append(f"(?P<t{number}>{row}) ")
    if is_open:
        rows.insert(len(fronts), "(?P<rest>(?:[a-z]+ )*)")
    return re.compile("".join(rows))


def made_by_pattern(rule, found):
    text = ""
    for item in rule[3]:
        if item[0] == "word":
            text += item[1] + " "
        elif item[0] == "field":
            text += found.group(f"t{item[1]}") + " "
        else:
            text += found.group("rest")
    return tuple(text.split())


def rows_of_tests(many):
    pool = [("is", "a"), ("any",), ("none", ("b",)), ("none", ("a", "c", "d"))]
    return product(*[pool + [("like", ahead) for ahead in range(at)] for at in range(many)])


def all_rules():
    for fronts, backs in product(range(3), range(3)):
        making = (("word", "x"), ("rest",)) + tuple(("field", at) for at in (fronts + backs - 1, 0) if fronts + backs)
        for tests in rows_of_tests(fronts + backs):
            yield (tests[:fronts], True, tests[fronts:], making)
            if fronts > 0 and backs == 0:
                yield (tests, False, (), (("field", fronts - 1), ("field", 0), ("word", "y")))


class AgainstPatterns(unittest.TestCase):
    def test_all_rules_over_small_tests(self):
        names = names_over("ab", 5) + names_over("acd", 3)
        texts = [" ".join(name) + " " for name in names]
        for rule in all_rules():
            self.assertIs(is_rule(rule), True)
            pattern = pattern_of(rule)
            for name, text in zip(names, texts):
                found = pattern.fullmatch(text)
                made = None if found is None else made_by_pattern(rule, found)
                if fits(rule, name) is not (found is not None) or makes(rule, name) != made:
                    self.fail((rule, name, made))


class Refusals(unittest.TestCase):
    def refused(self, error, call, *things):
        with self.assertRaises(error) as caught:
            call(*things)
        self.assertIs(caught.exception.__class__, error)

    def test_no_rule_and_no_script(self):
        for thing in odd_things() + [(), BIG[:3], (BIG,), list(BIG)]:
            self.refused(NoRule, fits, thing, A)
            self.refused(NoRule, makes, thing, A)
        for thing in odd_things() + [BIG, [BIG], (BIG,) * 5, (BIG, None)]:
            self.refused(NoScript, first, thing, A)
            self.refused(NoScript, turned, thing, A)

    def test_no_name(self):
        for thing in odd_things() + [(), ["a"], "a", TOO_LONG, nested(tuple)]:
            self.refused(NoName, fits, BIG, thing)
            self.refused(NoName, makes, BIG, thing)
            for script in [(), (BIG,)]:
                self.refused(NoName, first, script, thing)
                self.refused(NoName, turned, script, thing)

    def test_of_two_the_first_is_told(self):
        for thing in odd_things():
            self.refused(NoRule, fits, thing, thing)
            self.refused(NoRule, makes, thing, thing)
            self.refused(NoScript, first, thing, thing)
            self.refused(NoScript, turned, thing, thing)

    def test_true_and_false_are_refused_as_numbers(self):
        rule = ajar([ANY, ANY], [("like", True)])
        self.refused(NoRule, fits, rule, ("a", "a", "a"))
        self.refused(NoRule, makes, closed(ANY, ANY, making=(("field", False),)), ("a", "a"))
        self.refused(NoScript, turned, (rule,), ("a", "a", "a"))
        self.refused(NoScript, first, (rule,), ("a", "a", "a"))

    def test_names_of_30_fields_are_taken(self):
        self.assertIs(fits(ajar([ANY], [ANY]), LONG), True)
        self.assertEqual(first((ajar([ANY], []),), LONG), 0)


class NothingIsChanged(unittest.TestCase):
    def test_what_is_handed_in_stays(self):
        rule = [[["any"]], True, [], [["word", "x"]]]
        name = ["a"]
        for call in (fits, makes):
            with self.assertRaises(NoRule):
                call(rule, name)
        for call in (first, turned):
            with self.assertRaises(NoScript):
                call([rule], name)
        self.assertEqual((rule, name), ([[["any"]], True, [], [["word", "x"]]], ["a"]))

    def test_equal_things_give_equal_answers(self):
        script, other = (BIG, closed(ANY)), SHIFT
        name = ("q", "r", "s", "abcdef", "q")
        before = (fits(BIG, name), makes(BIG, name), first(script, name), turned(script, name))
        turned(other, A)
        with self.assertRaises(NoScript):
            turned(BIG, A)
        again = tuple(list(name))
        copy = (tuple(list(BIG)), closed(ANY))
        self.assertEqual((fits(copy[0], again), makes(copy[0], again), first(copy, again), turned(copy, again)), before)
        self.assertEqual(before, (True, ("s", "q", "zzzzzz", "q"), 0, ("s", "q", "zzzzzz", "q")))


if __name__ == "__main__":
    unittest.main()
