"""Points 8 and 9: what a script does to all names that there may be."""

import unittest
from itertools import combinations, permutations, product

from namescripts.errors import Lost, NoName, NoNumber, NoScript
from namescripts.folders import walked
from namescripts.judged import clash, first_for, idle, matters, source, swap
from namescripts.names import is_name
from namescripts.rules import first, turned
from tests.samples import (
    A, ANY, B, C, IS_A, LONG, MERGE, REST, SHIFT, SWAP, TOO_LONG, WHEEL, X, Sullen, ajar, closed, names_over, odd_things,
    rename,
)
from tests.search import (
    drawn_scripts, plain_clash, plain_first, plain_matters, plain_source, plain_swap, short_names, size,
)

F = [("field", number) for number in range(4)]
ROTATE = (ajar([ANY], [], [REST, F[0]]),)
ENDS = (ajar([ANY], [ANY], [F[1], REST, F[0]]),)
DROP = (ajar([ANY, ANY], [], [F[1], REST]),)
GROW = (ajar([], [], [("word", "x"), REST, ("word", "y")]),)
ALL_X = (ajar([], [], X),)
KEEP = (rename(A, A), rename(B, B))
FOUR = tuple(rename((word,), target) for word, target in zip("abcd", [B, C, ("d",), ("e",)]))
FLIP = (closed(ANY, ANY, making=[F[1], F[0]]),)
# Four fields stay as they are, and all that stands between them is lost.
HUSK = (ajar([ANY, ANY], [ANY, ANY], F),)
# A front that is a back again, likes across fronts and backs.
ACROSS = (ajar([ANY, ANY], [("like", 1), ("like", 0)], [F[1], F[0], REST]),)
BACKS = (ajar([], [ANY, ("like", 0)], [REST, F[0], ("word", "a")]),)
FAR_CLASH = (
    ajar([], [ANY, ("like", 0)], [F[1], F[0], F[0], REST]), ajar([ANY, ANY], [], [REST, F[0], F[1], F[0]]),
)
FAR_MATTERS = (ajar([ANY], [IS_A, IS_A], [F[0], F[2], F[2], REST]),)
FAR_SWAP = (ajar([ANY], [ANY, ("like", 1)], [F[2], F[0], F[2], REST]),)
SCRIPTS = [
    (), KEEP, SHIFT, SWAP, WHEEL, MERGE, ROTATE, ENDS, DROP, GROW, ALL_X, FOUR, FLIP, HUSK, ACROSS, BACKS,
    FAR_CLASH, FAR_MATTERS, FAR_SWAP, SWAP + ROTATE, DROP + ROTATE, FLIP + DROP, KEEP + GROW,
]


class JudgedCase(unittest.TestCase):
    def refused(self, error, call, *things):
        with self.assertRaises(error) as caught:
            call(*things)
        self.assertIs(caught.exception.__class__, error)

    def pair(self, told):
        self.assertIs(told.__class__, tuple)
        self.assertEqual(len(told), 2)
        for name in told:
            self.name(name)
        self.assertNotEqual(*told)
        return told

    def name(self, told):
        self.assertIs(told.__class__, tuple)
        self.assertTrue(all(is_name((field,)) for field in told) and told)
        return told

    def check_clash(self, script, many):
        told = clash(script)
        self.assertEqual(size(told), many, script)
        if told is not None:
            one, other = self.pair(told)
            self.assertLess(one, other)
            self.assertEqual(turned(script, one), turned(script, other))

    def check_matters(self, script, many):
        told = matters(script)
        self.assertEqual(size(told), many, script)
        if told is not None:
            one, other = self.pair(told)
            self.assertEqual(turned(script, one), other)
            self.assertNotEqual(turned(script, other), other)

    def check_swap(self, script, many):
        told = swap(script)
        self.assertEqual(size(told), many, script)
        if told is not None:
            one, other = self.pair(told)
            self.assertLess(one, other)
            self.assertEqual((turned(script, one), turned(script, other)), (other, one))

    def check_first(self, script, sizes):
        for number, many in enumerate(sizes):
            told = first_for(script, number)
            self.assertEqual(size(told), many, (script, number))
            if told is not None:
                self.assertEqual(first(script, self.name(told)), number)
        self.assertEqual(idle(script), [number for number, many in enumerate(sizes) if many is None])

    def check_source(self, script, name, many):
        told = source(script, name)
        self.assertEqual(size(told), many, (script, name))
        if told is not None and many <= 30:
            self.assertEqual(turned(script, self.name(told)), name)
        return told


class Clash(JudgedCase):
    def test_two_names_come_to_one(self):
        self.check_clash(MERGE[:1] + (rename(B, ("e",)),), 2)
        self.check_clash(ALL_X, 2)
        self.assertIn(clash(MERGE), [(A, B), (A, C), (B, C)])

    def test_one_that_stays_comes_to_itself(self):
        self.assertEqual(clash((rename(A, B),)), (A, B))
        self.assertEqual(clash((rename(B, A),)), (A, B))
        self.assertEqual(clash(SHIFT), (B, C))
        self.assertEqual(clash(FOUR), (("d",), ("e",)))

    def test_no_names_clash(self):
        for script in [(), KEEP, SWAP, WHEEL, ROTATE, ENDS, FLIP, GROW, SWAP + ROTATE]:
            self.check_clash(script, None)

    def test_fields_that_are_dropped(self):
        self.check_clash(DROP, 3)
        self.check_clash((closed(ANY, ANY, making=[F[0], ("word", "x"), ("word", "y")]),), 4)
        self.check_clash((ajar([ANY], [ANY], [REST, F[0], F[1]]),), None)
        self.check_clash((ajar([ANY], [IS_A], [REST, F[0]]),), 3)

    def test_what_stands_between_is_lost(self):
        self.check_clash(HUSK, 9)
        self.check_clash((ajar([ANY], [ANY], F[:2]),), 5)

    def test_long_names(self):
        self.check_clash(FAR_CLASH, 12)
        self.check_clash((ajar([IS_A], [], [REST] + 2 * [("word", "a")]), ajar([], [], [("word", "b"), REST])), 6)

    def test_a_short_name_and_a_long_one(self):
        trim = ajar([ANY, ANY], [ANY, ANY], [F[0], REST])
        grow = ajar([], [], [("word", "a"), ("word", "b"), REST, ("word", "c")])
        self.check_clash((trim, grow), 8)
        self.assertEqual(sorted(map(len, clash((trim, grow)))), [1, 7])

    def test_likes_across_fronts_and_backs(self):
        self.check_clash(ACROSS, 6)
        self.check_clash(BACKS, 4)

    def test_the_lesser_one_first_is_not_always_the_shorter_one(self):
        one, other = clash((rename(("b",), ("a", "x")),))
        self.assertEqual((one, other), (("a", "x"), ("b",)))
        self.assertEqual(clash((rename(("a", "x"), ("b",)),)), (("a", "x"), ("b",)))


class Matters(JudgedCase):
    def test_one_comes_to_another_that_is_moved(self):
        self.assertEqual(matters(SHIFT), (A, B))
        self.assertIn(matters(SWAP), [(A, B), (B, A)])
        self.assertIn(matters(FOUR), [(A, B), (B, C), (C, ("d",))])
        self.assertEqual(matters((rename(B, A), rename(A, C))), (B, A))

    def test_the_one_that_comes_to_the_other_first(self):
        for script in [SHIFT, WHEEL, ROTATE, ENDS, DROP, GROW, FAR_MATTERS]:
            one, other = matters(script)
            self.assertEqual(turned(script, one), other)

    def test_no_order_matters(self):
        for script in [(), KEEP, MERGE, HUSK, ALL_X, (rename(A, B),), (rename(A, B), rename(B, B))]:
            self.check_matters(script, None)

    def test_rests(self):
        self.check_matters(ROTATE, 4)
        self.check_matters(DROP, 5)
        self.check_matters(GROW, 4)
        self.check_matters((closed(ANY, ANY, making=F[:1]),), None)
        self.check_matters((closed(ANY, ANY, making=F[:1]), closed(ANY)), 3)

    def test_long_names(self):
        self.check_matters(FAR_MATTERS, 12)

    def test_a_rule_that_makes_the_name_itself_moves_nothing(self):
        self.check_matters((closed(ANY, ("like", 0), making=F[:1] * 2), FLIP[0]), 4)
        self.check_matters((closed(ANY, ("like", 0), making=[F[1], F[0]]),), None)


class Swap(JudgedCase):
    def test_two_names_change_places(self):
        self.assertEqual(swap(SWAP), (A, B))
        self.assertEqual(swap(SWAP[::-1]), (A, B))
        self.check_swap(FLIP, 4)
        self.check_swap(ENDS, 4)
        self.check_swap(ROTATE, 4)

    def test_no_names_change_places(self):
        for script in [(), KEEP, SHIFT, WHEEL, MERGE, DROP, GROW, ALL_X, HUSK]:
            self.check_swap(script, None)

    def test_names_of_unlike_sizes(self):
        there, back = ajar([IS_A], [], [("word", "b"), REST]), ajar([("is", "b")], [ANY], [("word", "a"), REST])
        self.check_swap((there, back), None)
        pull = (ajar([IS_A], [IS_A], [("word", "b"), REST]), ajar([("is", "b")], [], [("word", "a"), REST, ("word", "a")]))
        self.assertEqual(swap(pull), (("a", "a"), ("b",)))
        self.assertEqual(swap((rename(("b",), ("a", "x")), rename(("a", "x"), ("b",)))), (("a", "x"), ("b",)))

    def test_names_that_recur_within_themselves(self):
        self.check_swap((ajar([ANY, ANY], [], [REST, F[0], F[1]]), rename(("c", "c"), A)), 8)
        self.check_swap((ajar([ANY, ANY], [ANY], [REST, F[2], F[0], F[1]]),), 8)
        self.check_swap(FAR_SWAP, 12)


class FirstFor(JudgedCase):
    def test_a_shortest_name(self):
        self.check_first(SHIFT, [1, 1])
        self.check_first((closed(ANY), closed(ANY, ANY), ajar([], []), ajar([ANY], [])), [1, 2, 3, None])
        self.check_first(DROP + ACROSS, [2, None])
        self.check_first(ACROSS + DROP, [4, 2])
        self.check_first(HUSK, [4])

    def test_rules_ahead_leave_what_they_do_not_fit(self):
        self.check_first((closed(("none", ("a", "b", "c"))), closed(ANY)), [1, 1])
        self.check_first((closed(IS_A), closed(ANY)), [1, 1])
        self.check_first((closed(IS_A), closed(("none", ("a",))), closed(ANY)), [1, 1, None])
        self.check_first((closed(ANY, ("like", 0)), closed(ANY, ANY)), [2, 2])
        self.check_first((closed(ANY, ("like", 0)), closed(IS_A, IS_A)), [2, None])
        self.check_first((closed(ANY), closed(IS_A), ajar([ANY, ANY], []), ajar([], [ANY])), [1, None, 2, None])

    def test_few_words_are_left_for_unlike_fields(self):
        def ahead(*words):
            return (closed(("none", words), ANY), closed(ANY, ("none", words)), closed(ANY, ("like", 0)), closed(ANY, ANY))

        self.check_first(ahead("a"), [2, 2, 2, None])
        self.check_first(ahead("a", "b"), [2, 2, 2, 2])
        self.check_first(ahead("a", "b", "c"), [2, 2, 2, 2])
        self.assertIn(first_for(ahead("a", "b"), 3), [("a", "b"), ("b", "a")])

    def test_fronts_and_backs_that_lie_upon_each_other(self):
        self.check_first((ajar([ANY, IS_A], []), ajar([], [IS_A, ANY])), [2, 2])
        self.check_first((ajar([ANY, IS_A], []), ajar([ANY, ANY], [IS_A, ANY])), [2, 4])
        self.check_first((ajar([IS_A], []), ajar([ANY], [IS_A])), [1, 2])
        self.check_first((ajar([IS_A], []), ajar([], [IS_A])), [1, 2])

    def test_a_name_that_a_rule_makes_of_itself_counts(self):
        self.check_first(KEEP, [1, 1])

    def test_idle_rises_and_is_a_new_list(self):
        script = (ajar([], []),) + SHIFT + DROP
        self.assertEqual(idle(script), [1, 2, 3])
        idle(script).append(7)
        self.assertEqual(idle(script), [1, 2, 3])
        self.assertEqual(idle(()), [])
        self.assertIs(idle(()).__class__, list)


class Source(JudgedCase):
    def test_a_shortest_name(self):
        self.assertEqual(source(SHIFT, B), A)
        self.assertIn(source(SHIFT, C), [B, C])
        self.assertEqual(source(FLIP, ("a", "b")), ("b", "a"))
        self.assertEqual(source(DROP, ("a",)), A)
        self.assertEqual(source(ROTATE, LONG[1:] + ("b",)), ("b",) + LONG[1:])

    def test_names_that_stay_come_to_themselves(self):
        for name in [A, ("q", "r"), LONG]:
            self.assertEqual(source((), name), name)
        self.assertEqual(source(KEEP, A), A)

    def test_no_source(self):
        self.check_source(SHIFT, A, None)
        self.check_source(ALL_X, A, None)
        self.check_source(ALL_X, LONG, None)
        self.check_source(GROW, A, None)
        self.check_source(GROW, ("x", "y"), None)
        self.check_source((closed(ANY, making=F[:1] * 2),), ("a",), None)
        self.check_source((closed(ANY, making=F[:1] * 2),), ("a", "b"), 2)
        self.check_source((closed(ANY, making=F[:1] * 2), closed(ANY, ANY, making=F[:1] * 2)), ("a", "b"), None)

    def test_fields_that_are_dropped_may_have_any_words(self):
        self.check_source(HUSK, ("a", "b", "c", "d"), 4)
        self.check_source(ALL_X, ("x",), 1)
        self.check_source((ajar([("none", ("a", "b", "c"))], [], X),), ("x",), 1)
        told = self.check_source((ajar([ANY, ANY], [ANY], [F[0], REST]), closed(ANY), closed(ANY, ANY)), ("q",), 3)
        self.assertEqual(told[0], "q")

    def test_the_shortest_of_several(self):
        script = (closed(ANY, ANY, making=F[:1]), ajar([("is", "q")], [], F[:1]), closed(ANY))
        self.check_source(script, ("q",), 1)
        self.check_source(script, ("r",), 2)
        self.assertEqual(source(script + (ajar([ANY], [], X),), ("x",)).__class__, tuple)

    def test_names_told_longer_than_30(self):
        told = source((ajar([ANY, ANY], [ANY, ANY], [F[0], REST]),), LONG)
        self.assertEqual(len(told), 33)
        self.assertEqual(told[0:1] + told[2:31], LONG)
        self.name(told)
        self.assertEqual(len(source(DROP, LONG)), 31)
        self.assertEqual(source(DROP, LONG)[1:], LONG)

    def test_names_of_30_fields(self):
        name = ("x",) + LONG[2:] + ("y",)
        self.assertEqual(source(GROW, name), LONG[2:])
        self.assertIsNone(source(GROW, LONG))

    def test_items_that_come_again(self):
        double = (ajar([ANY], [], [F[0], F[0], REST]),)
        self.assertEqual(source(double, ("a", "a", "b")), ("a", "b"))
        self.assertIsNone(source(double, ("a", "b")))


class AgainstPlainSearch(JudgedCase):
    """What is told does show it, nothing shorter does, and where None is told nothing is found."""

    def no_shorter(self, told, found, *what):
        """A search over few words may miss what is told, but it finds nothing less."""
        if found is not None and (told is None or size(told) > found):
            self.fail((told, found) + what)

    def as_short(self, told, *what):
        self.no_shorter(told, *what)
        self.assertEqual(size(told), what[0], what)

    def judge(self, script, words, least, most=None):
        names = list(short_names(words, most))
        targets = {name: turned(script, name) for name in names}
        least(clash(script), plain_clash(targets), script)
        self.check_clash(script, size(clash(script)))
        least(matters(script), plain_matters(script, targets), script)
        self.check_matters(script, size(matters(script)))
        least(swap(script), plain_swap(script, targets), script)
        self.check_swap(script, size(swap(script)))
        firsts = plain_first(script, names)
        for number in range(len(script)):
            least(first_for(script, number), firsts.get(number), script, number)
        self.check_first(script, [size(first_for(script, number)) for number in range(len(script))])
        sources = plain_source(targets)
        wanted = names[::max(1, len(names) // 12)] + list(sources)[::max(1, len(sources) // 12)]
        for name in [name for name in wanted if len(name) <= 30]:
            told = self.check_source(script, name, size(source(script, name)))
            least(told, sources.get(name), script, name)

    def test_scripts_of_all_kinds(self):
        for script in SCRIPTS:
            with self.subTest(script=script):
                self.judge(script, ["a", "b", "x", "y"], self.no_shorter)

    def test_drawn_scripts(self):
        for script, words in drawn_scripts(8, 250):
            with self.subTest(script=script):
                self.judge(script, words, self.no_shorter)

    def test_all_small_scripts_find_just_what_is_there(self):
        tests = [ANY, IS_A, ("none", ("a",))]
        items = [("word", "a"), F[0]]
        rules = [closed(test, making=[item]) for test, item in product(tests, items)]
        rules += [ajar([test], [], [item, REST][::turn]) for test in tests for item in items for turn in (1, -1)]
        rules += [ajar([], [test], [REST, item]) for test, item in product(tests, items)]
        for script in product(rules, rules):
            with self.subTest(script=script):
                self.judge(script, ["a", "x", "y"], self.as_short, 4)

    def test_no_order_loses_anything_just_if_nothing_clashes_and_no_order_matters(self):
        def loses(script, folder):
            for order in permutations(folder):
                try:
                    walked(script, folder, order)
                except Lost:
                    return True
            return False

        folders = list(combinations(sorted(names_over("ab", 2)), 2))
        for script, _ in drawn_scripts(9, 300):
            found = any(loses(script, folder) for folder in folders)
            told = [pair for pair in (clash(script), matters(script)) if pair is not None]
            if found:
                self.assertNotEqual(told, [])
            for pair in told:
                folder = tuple(sorted(pair))
                if max(map(len, folder)) <= 30:
                    self.assertTrue(loses(script, folder))


class Refusals(JudgedCase):
    def test_no_script(self):
        for thing in odd_things() + [SHIFT[0], list(SHIFT), SHIFT * 3, (SHIFT,)]:
            for call in (clash, matters, swap, idle):
                self.refused(NoScript, call, thing)
            for number in [0, thing, None, Sullen()]:
                self.refused(NoScript, first_for, thing, number)
            for name in [A, thing, None, Sullen()]:
                self.refused(NoScript, source, thing, name)

    def test_no_number(self):
        for number in [-1, 2, 3, 4, 10 ** 40, True, False, None, "0", (0,), [0], Sullen()]:
            self.refused(NoNumber, first_for, SHIFT, number)
        for thing in odd_things():
            self.refused(NoNumber, first_for, SHIFT, thing)
        self.refused(NoNumber, first_for, (), 0)
        self.refused(NoNumber, first_for, (), True)
        self.assertEqual(first_for(FOUR, 3), ("d",))
        self.refused(NoNumber, first_for, FOUR, 4)

    def test_no_name(self):
        for thing in odd_things() + [(), ["a"], "a", TOO_LONG]:
            for script in [(), SHIFT, GROW]:
                self.refused(NoName, source, script, thing)

    def test_true_and_false_are_no_numbers_within_scripts(self):
        for rule in [closed(ANY, ANY, making=[("field", True)]), closed(ANY, ("like", False))]:
            for call in (clash, matters, swap, idle):
                self.refused(NoScript, call, (rule,))
            self.refused(NoScript, first_for, (rule,), 0)
            self.refused(NoScript, source, (rule,), A)


class NothingIsChanged(JudgedCase):
    def test_equal_things_give_equal_answers(self):
        def answers(script):
            firsts = [first_for(script, number) for number in range(len(script))]
            return clash(script), matters(script), swap(script), idle(script), firsts, source(script, A)

        before = [answers(script) for script in SCRIPTS]
        self.refused(NoScript, clash, list(SHIFT))
        again = [answers(tuple(list(script))) for script in SCRIPTS[::-1]]
        self.assertEqual(again[::-1], before)

    def test_lists_that_are_refused_stay(self):
        script, name = [list(SHIFT[0])], ["a"]
        for call in (clash, matters, swap, idle):
            self.refused(NoScript, call, script)
        self.refused(NoName, source, SHIFT, name)
        self.assertEqual((script, name), ([list(SHIFT[0])], ["a"]))


if __name__ == "__main__":
    unittest.main()
