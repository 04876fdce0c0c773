"""Point 12: rules and scripts as texts."""

import re
import unittest
from itertools import product

from namescripts.errors import NoRule, NoScript, NoText
from namescripts.rules import is_rule
from namescripts.texts import read_rule, read_script, rule_text, script_text
from tests.samples import A, ANY, REST, SHIFT, X, Sullen, odd_things, rename, swaps
from tests.search import drawn_scripts

BIG = (
    (("any",), ("none", ("a", "b", "c"))), True, (("is", "abcdef"), ("like", 0)),
    (("rest",), ("field", 3), ("word", "zzzzzz"), ("field", 0)),
)
TEXTS = [
    (((("is", "a"),), False, (), X), "a > x"),
    (((ANY,), False, (), (("field", 0),)), "* > $0"),
    (((ANY, ("like", 0)), False, (), (("field", 1), ("word", "y"))), "* =0 > $1 y"),
    (((("none", ("a",)),), False, (), X * 4), "!a > x x x x"),
    (((("none", ("a", "ab", "b")), ("none", ("abcdef", "q"))), False, (), X), "!a,ab,b !abcdef,q > x"),
    (((), True, (), (("word", "x"), REST)), ".. > x .."),
    (((), True, (), X), ".. > x"),
    (((ANY,), True, (), (REST, ("field", 0))), "* .. > .. $0"),
    (((), True, (ANY,), (("field", 0), REST)), ".. * > $0 .."),
    (((), True, (("is", "b"), ("like", 0)), X + (REST,) + X), ".. b =0 > x .. x"),
    (((ANY, ANY), True, (("like", 1), ("like", 2)), (("field", 3), REST)), "* * .. =1 =2 > $3 .."),
    (BIG, "* !a,b,c .. abcdef =0 > .. $3 zzzzzz $0"),
]
SIGNS = " abz.*!=$>,0123459\n\t\r-AZ\u00e9\u0660\u00b2\u2028\x1c\x85_+\u00a0"
WORD = "[a-z]{1,6}"
TEST = rf"(?:{WORD}|\*|!{WORD}(?:,{WORD}){{0,2}}|=[0-9])"
ITEM = rf"(?:{WORD}|\$[0-9]|\.\.)"
LINE = re.compile(rf"(?:({TEST}(?: {TEST})?)|((?:{TEST} ){{0,2}})\.\.((?: {TEST}){{0,2}})) > ({ITEM}(?: {ITEM}){{0,3}})")


def is_line(text):
    """Whether a rule is written so, read off the text with patterns alone."""
    found = LINE.fullmatch(text)
    if found is None:
        return False
    tests = ((found[1] or "") + (found[2] or "") + (found[3] or "")).split()
    items = found[4].split()
    for at, test in enumerate(tests):
        if test[0] == "=" and int(test[1]) >= at:
            return False
        words = test[1:].split(",")
        if test[0] == "!" and words != sorted(set(words)):
            return False
    if any(item[0] == "$" and int(item[1]) >= len(tests) for item in items):
        return False
    rests = items.count("..")
    return rests < len(items) and rests <= (0 if found[1] else 1)


def changed(text):
    """The text with one sign left out, put in or changed, or with two side by side changing places."""
    for at in range(len(text) + 1):
        yield text[:at] + text[at + 1:]
        yield text[:at] + text[at:at + 2][::-1] + text[at + 2:]
        for sign in SIGNS:
            yield text[:at] + sign + text[at:]
            yield text[:at] + sign + text[at + 1:]


class TextCase(unittest.TestCase):
    def refused(self, error, call, *things):
        with self.assertRaises(error) as caught:
            call(*things)
        self.assertIs(caught.exception.__class__, error)

    def check(self, text):
        """The text is read just if a rule is written so, and then as that rule."""
        if is_line(text):
            rule = read_rule(text)
            self.assertIs(is_rule(rule), True)
            self.assertEqual(rule_text(rule), text)
            self.assertEqual(read_script(text + "\n"), (rule,))
        else:
            self.refused(NoText, read_rule, text)
            if "\n" not in text:
                self.refused(NoText, read_script, text + "\n")


class Rules(TextCase):
    def test_written_and_read(self):
        for rule, text in TEXTS:
            with self.subTest(text=text):
                self.assertIs(is_rule(rule), True)
                self.assertEqual(rule_text(rule), text)
                self.assertEqual(read_rule(text), rule)

    def test_what_is_read_is_made_of_tuples(self):
        rule = read_rule(TEXTS[-1][1])
        self.assertEqual(repr(rule), repr(BIG))
        self.assertIs(read_rule("* > $0")[1], False)
        self.assertIs(read_rule("* .. > $0")[1], True)
        self.assertIs(read_rule("* > $0")[3][0][1].__class__, int)

    def test_words_may_be_called_as_tests_and_items_are(self):
        for word in ["is", "any", "none", "like", "word", "field", "rest", "open"]:
            rule = ((("is", word), ("none", (word,))), True, (), (("word", word), REST))
            self.assertEqual(rule_text(rule), f"{word} !{word} .. > {word} ..")
            self.assertEqual(read_rule(rule_text(rule)), rule)

    def test_all_forms_of_rules(self):
        tests = [("is", "a"), ANY, ("none", ("a", "b"))]
        for fronts, backs in product(range(3), range(3)):
            for row in product(*[tests + [("like", ahead) for ahead in range(at)] for at in range(fronts + backs)]):
                for making in [X, X + (REST,), tuple(("field", at) for at in range(fronts + backs)) or X]:
                    rules = [(row[:fronts], True, row[fronts:], making)]
                    if fronts and not backs and REST not in making:
                        rules.append((row, False, (), making))
                    for rule in rules:
                        self.assertEqual(read_rule(rule_text(rule)), rule)
                        self.assertIs(is_line(rule_text(rule)), True)

    def test_one_sign_put_in_left_out_or_changed(self):
        for _, text in TEXTS:
            for other in changed(text):
                self.check(other)

    def test_texts_of_no_rule(self):
        for text in [
            "", " ", ">", " > ", "a", "a >", "a > ", "> x", " > x", "a > x ", " a > x", "a  > x", "a >  x", "a > x\n",
            "a > x\n\n", "\na > x", "a>x", "a > x > y", "a\t> x", "a > ..", ".. > ..", ".. > .. ..", ".. > x .. ..",
            "a > x ..", "a b c > x", "a b c .. > x", ".. a b c > x", "a .. b .. > x", ".. .. > x", "* > $1", "* > $", "* > $00",
            "* > $-1", "* > $01", "* =1 > x", "=0 > x", "* = > x", "* =00 > x", "* =0, > x", "* =\u0660 > x", "* > $\u00b2",
            "! > x", "!a, > x", "!,a > x", "!b,a > x", "!a,a > x", "!a,b,c,d > x", "!a, b > x", "! a > x", "!* > x", "!!a > x",
            "** > x", "*a > x", "A > x", "abcdefg > x", "a > abcdefg", "a > x x x x x", ".. > .. x x x x", "a > *", "a > =0",
            "a > !a", "$0 > x", "a ... > x", "a . > x", "a .. > x ...", "\ufeffa > x", "a > \u00e9", "a\u00a0> x", "a > x\r",
            "a,b > x", "a > x,y", "* > $0$0", "*.. > x", "..* > x", "a..b > x", "a > >", "> > >",
        ]:
            with self.subTest(text=text):
                self.assertIs(is_line(text), False)
                self.check(text)

    def test_no_texts(self):
        for thing in odd_things() + [b"a > x", ["a > x"], ("a > x",), BIG, SHIFT, 0, Sullen()]:
            self.refused(NoText, read_rule, thing)

    def test_no_rules(self):
        for thing in odd_things() + [(), BIG[:3], (BIG,), list(BIG), "a > x"]:
            self.refused(NoRule, rule_text, thing)
        for thing in swaps(BIG, odd_things()):
            self.refused(NoRule, rule_text, thing)
        self.refused(NoRule, rule_text, ((ANY, ANY), False, (), (("field", True),)))
        self.refused(NoRule, rule_text, ((ANY, ("like", False)), False, (), X))


class Scripts(TextCase):
    def test_each_rule_ended_by_a_line_feed(self):
        self.assertEqual(script_text(()), "")
        self.assertEqual(read_script(""), ())
        self.assertEqual(script_text(SHIFT), "a > b\nb > c\n")
        self.assertEqual(read_script("a > b\nb > c\n"), SHIFT)
        for many in range(5):
            script, text = (BIG,) * many, (TEXTS[-1][1] + "\n") * many
            self.assertEqual(script_text(script), text)
            self.assertEqual(read_script(text), script)
            self.assertEqual(repr(read_script(text)), repr(script))

    def test_drawn_scripts(self):
        for script, _ in drawn_scripts(12, 500):
            text = script_text(script)
            self.assertEqual(text, "".join(rule_text(rule) + "\n" for rule in script))
            self.assertEqual(read_script(text), script)

    def test_one_sign_put_in_left_out_or_changed(self):
        for text in ["", "a > x\n", "* .. > .. $0\n!a,b =0 > x\n", TEXTS[-1][1] + "\n" + ".. > x\n" * 3]:
            for other in changed(text):
                lines = other.split("\n")
                if lines[-1] == "" and len(lines) <= 5 and all(is_line(line) for line in lines[:-1]):
                    self.assertEqual(script_text(read_script(other)), other)
                else:
                    self.refused(NoText, read_script, other)

    def test_texts_of_no_script(self):
        for text in ["\n", "\n\n", "a > x", "a > x\n\n", "\na > x\n", "a > x\nb > y", "a > x\r\n", "a > x\n" * 5, " ",
                     "a > x\n \n", "a > x\x0b", "a > x\u2028", "a > x\x85b > y\n", "a > x\x1cb > y\n", "..\n", "()"]:
            with self.subTest(text=text):
                self.refused(NoText, read_script, text)

    def test_no_texts(self):
        odd = [thing for thing in odd_things() if not isinstance(thing, str) or len(thing) > 0]
        for thing in odd + [b"", b"a > x\n", ["a > x\n"], (), SHIFT]:
            self.refused(NoText, read_script, thing)

    def test_no_scripts(self):
        for thing in odd_things() + [BIG, [BIG], (BIG,) * 5, (BIG, None), "a > x\n", {}]:
            self.refused(NoScript, script_text, thing)
        self.refused(NoScript, script_text, (rename(A, A), ((ANY, ANY), False, (), (("field", True),))))


class NothingIsChanged(TextCase):
    def test_equal_things_give_equal_answers(self):
        text = "".join(["a > ", "b\n"])
        before = (read_script(text), read_rule("a > b"), script_text(SHIFT), rule_text(BIG))
        self.refused(NoText, read_rule, "a >")
        self.assertEqual((read_script("a > b\n"), read_rule(text[:-1]), script_text(tuple(list(SHIFT))),
                          rule_text(tuple(list(BIG)))), before)

    def test_lists_that_are_refused_stay(self):
        rule = [[["any"]], True, [], [["word", "x"]]]
        self.refused(NoRule, rule_text, rule)
        self.refused(NoScript, script_text, [rule])
        self.assertEqual(rule, [[["any"]], True, [], [["word", "x"]]])


if __name__ == "__main__":
    unittest.main()
