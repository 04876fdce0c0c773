"""What is known of fields, against all words that they may have."""

import unittest
from itertools import permutations, product
from random import Random

from namescripts.facts import Facts, opposite, unused_words

FIELDS = 4
WORDS = ["a", "b", "c", "d"]
# One unused word for each field is all that fields of any word need.
ALL_WORDS = WORDS + ["p", "q", "r", "s"]


def drawn_claim(dice):
    kind = dice.choice(["same", "apart", "apart", "among", "among", "outside"])
    one, other = dice.sample(range(FIELDS), 2)
    if kind in ("same", "apart"):
        return (kind, one, other)
    words = WORDS[:2] if dice.random() < 0.5 else WORDS
    return (kind, one, tuple(sorted(dice.sample(words, min(len(words), dice.choice([1, 1, 2, 3]))))))


def holds(claim, words):
    kind, field, other = claim
    if kind in ("same", "apart"):
        return (words[field] == words[other]) is (kind == "same")
    return (words[field] in other) is (kind == "among")


class Solving(unittest.TestCase):
    def test_drawn_claims(self):
        dice = Random(3)
        rows = list(product(ALL_WORDS, repeat=FIELDS))
        found = {True: 0, False: 0}
        for _ in range(900):
            claims = [drawn_claim(dice) for _ in range(dice.randrange(8))]
            clauses = [
                [drawn_claim(dice) for _ in range(dice.choice([0] + 5 * [1, 2, 3, 4]))] for _ in range(dice.randrange(8))
            ]
            fitting = [
                words for words in rows if all(holds(claim, words) for claim in claims)
                and all(any(holds(claim, words) for claim in clause) for clause in clauses)
            ]
            facts = Facts().plus(claims, clauses)
            solved = None if facts is None else facts.solved()
            self.assertEqual(solved is not None, fitting != [], (claims, clauses))
            found[fitting != []] += 1
            if solved is not None:
                told = solved.tell([tuple(range(FIELDS))], dict.fromkeys(WORDS, True))[0]
                self.assertTrue(all(holds(claim, told) for claim in claims), (claims, clauses, told))
                self.assertTrue(all(any(holds(claim, told) for claim in clause) for clause in clauses))
        self.assertGreater(min(found.values()), 150)

    def test_what_is_judged_is_so(self):
        dice = Random(4)
        rows = list(product(ALL_WORDS, repeat=FIELDS))
        for _ in range(300):
            claims = [drawn_claim(dice) for _ in range(dice.randrange(6))]
            facts = Facts().plus(claims, [])
            fitting = [words for words in rows if all(holds(claim, words) for claim in claims)]
            if facts is None:
                self.assertEqual(fitting, [])
                continue
            for claim in [drawn_claim(dice) for _ in range(8)]:
                verdict = facts.judge(claim)
                self.assertIn(verdict, (True, False, None))
                if verdict is not None:
                    self.assertTrue(all(holds(claim, words) is verdict for words in fitting), (claims, claim))
                self.assertEqual(facts.judge(opposite(claim)), None if verdict is None else not verdict)

    def test_claims_that_do_not_go_together_in_any_order(self):
        for claims in [
            [("among", 0, ("a",)), ("among", 1, ("a",)), ("apart", 0, 1)],
            [("among", 0, ("a",)), ("among", 1, ("a", "b")), ("apart", 0, 1), ("outside", 1, ("b",))],
            [("same", 0, 1), ("same", 1, 2), ("apart", 0, 2)],
            [("same", 0, 1), ("outside", 0, ("a",)), ("among", 1, ("a",))],
            [("among", 0, ("a", "b")), ("among", 0, ("b", "c")), ("outside", 0, ("b",))],
            [("same", 0, 1), ("among", 0, ("a", "b")), ("among", 1, ("c", "d"))],
        ]:
            for row in permutations(claims):
                self.assertIsNone(Facts().plus(row, []), row)
                for many in range(len(row)):
                    more = Facts().plus(row[:many], [[claim] for claim in row[many:]])
                    self.assertIsNone(more, row)

    def test_more_facts_leave_the_others_as_they_are(self):
        facts = Facts().plus([("same", 0, 1)], [])
        more = facts.plus([("among", 0, ("a", "b"))], [[("among", 1, ("b",)), ("apart", 2, 3)]])
        self.assertIsNone(facts.judge(("among", 1, ("a", "b"))))
        self.assertIs(more.judge(("among", 1, ("a", "b"))), True)
        self.assertIsNone(more.plus([("outside", 1, ("a", "b"))], []))
        self.assertEqual(facts.clauses, [])

    def test_unused_words(self):
        self.assertEqual(unused_words({})[0], "a")
        words = unused_words({"a": True, "ab": True})
        self.assertEqual(words[0], "b")
        self.assertNotIn("ab", words)
        self.assertEqual(len(words), len(set(words)))
        self.assertEqual(len(words), 26 + 26 * 26 - 2)


if __name__ == "__main__":
    unittest.main()
