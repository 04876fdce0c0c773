"""Points 6 and 7, and what the last sentence of point 8 says of orders."""

import unittest
from itertools import combinations, permutations, product

from namescripts.errors import Clash, Lost, NoFolder, NoOrder, NoScript, Ringed
from namescripts.folders import at_once, moved, rings, safe_order, walked
from namescripts.rules import turned
from tests.samples import (
    A, B, C, D, LONG, MERGE, SHIFT, SWAP, TOO_LONG, WHEEL, Sullen, odd_things, rename,
)

ADD = (((), True, (), (("word", "x"), ("rest",), ("word", "y"))),)
DROP = (((("any",), ("any",)), True, (), (("field", 1), ("rest",))),)
TURN = (((("any",),), True, (("any",),), (("field", 1), ("rest",), ("field", 0))),)
ALL_X = (((), True, (), (("word", "x"),)),)
KEEP = (rename(A, A), rename(B, B))
FULL = tuple(sorted((p, q) for p in "abcdef" for q in "vwxyz"))
CALLS = [at_once, moved, rings, safe_order]


class FolderCase(unittest.TestCase):
    def refused(self, error, call, *things):
        with self.assertRaises(error) as caught:
            call(*things)
        self.assertIs(caught.exception.__class__, error)
        return caught.exception

    def clash(self, call, script, folder, told):
        found = self.refused(Clash, call, script, folder).told
        self.assertEqual(found, told)
        self.assertIs(found.__class__, tuple)

    def lost(self, script, folder, order, told):
        found = self.refused(Lost, walked, script, folder, order).told
        self.assertEqual(found, told)
        self.assertIs(found.__class__, int)


class AtOnce(FolderCase):
    def test_all_names_are_turned_together(self):
        self.assertEqual(at_once(SHIFT, (A, B)), (B, C))
        self.assertEqual(at_once(SWAP, (A, B)), (A, B))
        self.assertEqual(at_once(WHEEL, (A, B, C)), (A, B, C))
        self.assertEqual(at_once(SHIFT, (A, B, D)), (B, C, D))

    def test_the_folder_told_rises(self):
        script = (rename(A, D), rename(B, ("aa",)))
        self.assertEqual(at_once(script, (A, B)), (("aa",), D))
        self.assertEqual(at_once(TURN, (("a", "z"), ("b", "y"))), (("y", "b"), ("z", "a")))

    def test_folders_of_none_and_of_30_names(self):
        self.assertEqual(at_once(ALL_X, ()), ())
        self.assertEqual(at_once((), ()), ())
        self.assertEqual(at_once((), FULL), FULL)
        self.assertEqual(at_once(ADD, FULL), tuple(("x", p, q, "y") for p, q in FULL))
        self.assertEqual(at_once(TURN, FULL), tuple(sorted((q, p) for p, q in FULL)))

    def test_names_told_may_have_more_than_30_fields(self):
        self.assertEqual(at_once(ADD, (LONG,)), (("x",) + LONG + ("y",),))

    def test_clash_tells_all_names_that_come_to_one(self):
        self.clash(at_once, MERGE, (A, B), (A, B))
        self.clash(at_once, ALL_X, (A, B, C), (A, B, C))
        self.clash(at_once, ALL_X, FULL, FULL)

    def test_one_that_stays_comes_to_itself(self):
        self.clash(at_once, SHIFT[:1], (A, B), (A, B))
        self.clash(at_once, MERGE, (A, B, C), (A, B, C))
        self.clash(at_once, MERGE, (A, C, D), (A, C))
        self.clash(at_once, KEEP[:1] + SHIFT[1:] + (rename(C, A),), (A, B, C), (A, C))

    def test_clash_tells_no_names_but_these(self):
        self.clash(at_once, MERGE, (A, B, D), (A, B))
        self.clash(at_once, MERGE + (rename(D, ("e",)),), (A, B, D), (A, B))

    def test_clash_tells_the_names_of_several_clashes_in_one_rising_row(self):
        script = (rename(A, ("x",)), rename(B, ("y",)), rename(C, ("x",)), rename(D, ("y",)))
        self.clash(at_once, script, (A, B, C, D), (A, B, C, D))
        self.clash(at_once, script, (A, B, C, D, ("e",)), (A, B, C, D))
        self.clash(at_once, script, (A, B, C), (A, C))
        self.clash(at_once, script[:3], (A, B, C, D, ("x",), ("y",)), (A, B, C, ("x",), ("y",)))

    def test_clash_of_names_that_are_made_alike_in_unlike_ways(self):
        self.clash(at_once, DROP, (("a", "c"), ("b", "c"), ("b", "d"), ("c",)), (("a", "c"), ("b", "c"), ("c",)))


class Moved(FolderCase):
    def test_names_that_come_to_another(self):
        self.assertEqual(moved(SHIFT, (A, B, C, D)), (A, B))
        self.assertEqual(moved(WHEEL, (A, B, C, D)), (A, B, C))
        self.assertEqual(moved(SHIFT, (D,)), ())

    def test_a_name_that_a_rule_makes_of_itself_is_not_moved(self):
        self.assertEqual(moved(KEEP, (A, B, C)), ())
        self.assertEqual(moved(TURN, (("a", "a"), ("a", "b"), ("b",))), (("a", "b"),))

    def test_clashes_do_not_matter(self):
        self.assertEqual(moved(MERGE, (A, B, C)), (A, B))
        self.assertEqual(moved(ALL_X, FULL), FULL)
        self.assertEqual(moved(ALL_X, (A, ("x",), ("y",))), (A, ("y",)))

    def test_folders_of_none(self):
        self.assertEqual(moved(ALL_X, ()), ())

    def test_it_is_a_tuple(self):
        self.assertIs(moved(SHIFT, (A,)).__class__, tuple)


class Walked(FolderCase):
    def test_in_an_order_that_loses_nothing(self):
        self.assertEqual(walked(SHIFT, (A, B), (B, A)), (B, C))
        self.assertEqual(walked(SHIFT, (A, B, D), (D, B, A)), (B, C, D))
        self.assertEqual(walked((), (A, B), (B, A)), (A, B))
        self.assertEqual(walked((rename(A, D), rename(B, A)), (A, B), (A, B)), (A, D))

    def test_what_comes_to_a_name_that_is_there_is_lost(self):
        self.lost(SHIFT, (A, B), (A, B), 0)
        self.lost(SHIFT, (A, B, D), (D, A, B), 1)
        self.lost(MERGE, (A, B), (A, B), 1)
        self.lost(MERGE, (A, B), (B, A), 1)
        self.lost(MERGE, (A, C), (C, A), 1)
        self.lost(MERGE, (A, C), (A, C), 0)
        self.lost(SWAP, (A, B), (A, B), 0)
        self.lost(SWAP, (A, B), (B, A), 0)

    def test_the_first_loss_is_told(self):
        self.lost(ALL_X, (A, B, C, D), (D, B, C, A), 1)
        self.lost(SHIFT + (rename(C, D),), (A, B, C, D), (D, B, C, A), 1)

    def test_the_name_is_taken_out_ahead(self):
        self.assertEqual(walked(KEEP, (A, B), (A, B)), (A, B))
        self.assertEqual(walked((), FULL, FULL[::-1]), FULL)

    def test_a_name_put_in_is_not_walked_again(self):
        self.assertEqual(walked(SHIFT, (A,), (A,)), (B,))

    def test_a_name_that_went_leaves_room(self):
        self.assertEqual(walked(WHEEL[:2], (A, B), (B, A)), (B, C))
        self.lost(WHEEL, (A, B, C), (A, B, C), 0)

    def test_folders_of_none_and_of_30_names(self):
        self.assertEqual(walked(ALL_X, (), ()), ())
        self.assertEqual(walked(ADD, FULL, FULL[::-1]), tuple(("x", p, q, "y") for p, q in FULL))
        self.lost(ALL_X, FULL, FULL, 1)

    def test_the_last_of_30_names_may_be_lost(self):
        script = (rename(FULL[0], ("zz",)), rename(FULL[-1], ("zz",)))
        self.lost(script, FULL, FULL, 29)

    def test_names_told_may_have_more_than_30_fields(self):
        self.assertEqual(walked(ADD, (LONG,), (LONG,)), (("x",) + LONG + ("y",),))


class Rings(FolderCase):
    def test_rings_of_two_and_of_more_names(self):
        self.assertEqual(rings(SWAP, (A, B)), [(A, B)])
        self.assertEqual(rings(WHEEL, (A, B, C)), [(A, B, C)])
        backwards = (rename(A, C), rename(C, B), rename(B, A))
        self.assertEqual(rings(backwards, (A, B, C)), [(A, C, B)])
        four = (rename(A, C), rename(C, B), rename(B, D), rename(D, A))
        self.assertEqual(rings(four, (A, B, C, D)), [(A, C, B, D)])

    def test_no_rings(self):
        self.assertEqual(rings(SHIFT, (A, B)), [])
        self.assertEqual(rings(WHEEL, (A, B)), [])
        self.assertEqual(rings(SWAP, (A,)), [])
        self.assertEqual(rings(SWAP, ()), [])
        self.assertEqual(rings((), (A, B)), [])

    def test_a_name_that_stays_is_no_ring(self):
        self.assertEqual(rings(KEEP, (A, B, C)), [])
        self.assertEqual(rings(SWAP, (A, B, C, D)), [(A, B)])

    def test_several_rings_rise(self):
        found = rings(TURN, (("a", "c"), ("a", "d"), ("b", "c"), ("c", "a"), ("c", "b"), ("d", "a")))
        self.assertEqual(found, [(("a", "c"), ("c", "a")), (("a", "d"), ("d", "a")), (("b", "c"), ("c", "b"))])
        cross = (rename(A, D), rename(D, A), rename(B, C), rename(C, B))
        self.assertEqual(rings(cross, (A, B, C, D)), [(A, D), (B, C)])

    def test_rows_that_end_are_no_rings(self):
        script = SWAP + (rename(C, D),)
        self.assertEqual(rings(script, (A, B, C)), [(A, B)])
        self.assertEqual(rings(script[1:], (B, C)), [])

    def test_full_folders(self):
        folder = tuple(sorted({(p, q) for p in "abcdef" for q in "abcdef" if p != q}))
        self.assertEqual(rings(TURN, folder), [((p, q), (q, p)) for p, q in folder if p < q])

    def test_clash_ahead_of_rings(self):
        self.clash(rings, SWAP + (rename(C, D),), (A, B, C, D), (C, D))
        self.clash(rings, MERGE, (A, B), (A, B))

    def test_the_list_is_a_new_one(self):
        found = rings(SWAP, (A, B))
        self.assertIs(found.__class__, list)
        self.assertIs(found[0].__class__, tuple)
        found.append(1)
        self.assertEqual(rings(SWAP, (A, B)), [(A, B)])


class SafeOrder(FolderCase):
    def check(self, script, folder):
        order = safe_order(script, folder)
        self.assertIs(order.__class__, tuple)
        self.assertEqual(tuple(sorted(order)), folder)
        self.assertEqual(walked(script, folder, order), at_once(script, folder))
        self.assertEqual(safe_order(script, folder), order)

    def test_nothing_is_lost(self):
        chain = (rename(A, B), rename(B, C), rename(C, D), rename(D, ("e",)))
        self.check(chain, (A, B, C, D))
        self.assertEqual(safe_order(chain, (A, B, C, D)), (D, C, B, A))
        back = (rename(D, C), rename(C, B), rename(B, A), rename(A, ("e",)))
        self.check(back, (A, B, C, D))
        mixed = (rename(B, A), rename(A, D), rename(D, C), rename(C, ("b", "b")))
        self.check(mixed, (A, B, C, D))
        self.check(SHIFT, (A, B, D))

    def test_folders_of_none_and_of_30_names(self):
        self.check(ALL_X, ())
        self.check((), FULL)
        self.check(ADD, FULL)
        self.check(TURN, FULL)

    def test_long_rows_of_names(self):
        grow = (((("any",),), True, (), (("field", 0), ("word", "a"), ("rest",))),)
        self.check(grow, tuple(("a",) * many for many in range(1, 31)))
        shrink = (((("is", "a"), ("is", "a")), True, (), (("word", "a"), ("rest",))),
                  (((("is", "a"),), False, (), (("word", "b"),))))
        self.check(shrink, tuple(("a",) * many for many in range(1, 31)))

    def test_no_safe_order_just_if_there_is_a_ring(self):
        self.refused(Ringed, safe_order, SWAP, (A, B))
        self.refused(Ringed, safe_order, WHEEL, (A, B, C))
        self.refused(Ringed, safe_order, SWAP, (A, B, C, D))
        self.check(WHEEL, (A, B))
        self.check(SWAP, (A,))

    def test_clash_ahead_of_ringed(self):
        self.clash(safe_order, SWAP + (rename(C, D),), (A, B, C, D), (C, D))
        self.clash(safe_order, ALL_X, (A, B), (A, B))


def small_scripts():
    """All scripts that turn each of four names into one of these or another."""
    names = [A, B, C, D]
    for targets in product([A, B, C, D, ("e",)], repeat=4):
        yield tuple(rename(name, target) for name, target in zip(names, targets)), dict(zip(names, targets))


def loses(script, folder, order):
    try:
        walked(script, folder, order)
    except Lost:
        return True
    return False


class AllSmallScripts(FolderCase):
    """Each call against what the document says, word for word."""

    def test_at_once_and_rings(self):
        folder = (A, B, C, D)
        for script, targets in small_scripts():
            rows = list(targets.values())
            told = tuple(name for name in folder if rows.count(targets[name]) > 1)
            self.assertEqual(moved(script, folder), tuple(name for name in folder if targets[name] != name))
            if told:
                for call in (at_once, rings, safe_order):
                    self.clash(call, script, folder, told)
                continue
            self.assertEqual(at_once(script, folder), tuple(sorted(rows)))
            found = [
                row for many in (2, 3, 4) for row in permutations(folder, many)
                if row[0] == min(row) and all(targets[x] == y for x, y in zip(row, row[1:] + row[:1]))
            ]
            self.assertEqual(rings(script, folder), sorted(found))
            safe = [order for order in permutations(folder) if not loses(script, folder, order)]
            self.assertEqual(safe == [], found != [])
            if safe:
                self.assertIn(safe_order(script, folder), safe)
            else:
                self.refused(Ringed, safe_order, script, folder)

    def test_walked_step_by_step(self):
        folder = (A, B, C, D)
        for script, targets in small_scripts():
            for order in [(A, B, C, D), (D, C, B, A), (B, D, A, C)]:
                there, told = set(folder), None
                for at, name in enumerate(order):
                    there.remove(name)
                    if targets[name] in there:
                        told = at
                        break
                    there.add(targets[name])
                if told is None:
                    self.assertEqual(walked(script, folder, order), tuple(sorted(there)))
                else:
                    self.lost(script, folder, order, told)

    def test_no_order_loses_anything_just_if_nothing_clashes_and_no_order_matters(self):
        names = (A, B, C, D, ("e",))
        folders = [folder for many in range(6) for folder in combinations(names, many)]
        for script, targets in list(small_scripts())[::7]:
            where = {name: turned(script, name) for name in names}
            clashes = any(where[x] == where[y] for x, y in combinations(names, 2))
            matters = any(where[x] == y and where[y] != y for x, y in permutations(names, 2))
            lost = any(loses(script, folder, order) for folder in folders for order in permutations(folder))
            self.assertEqual(lost, clashes or matters)


class Refusals(FolderCase):
    def test_no_script(self):
        for thing in odd_things() + [SHIFT[0], list(SHIFT), SHIFT * 3, (SHIFT,)]:
            for call in CALLS:
                self.refused(NoScript, call, thing, (A, B))
            self.refused(NoScript, walked, thing, (A, B), (B, A))

    def test_no_folder(self):
        wrong = [[A], [], (B, A), (A, A), A, (TOO_LONG,), FULL + (("z",),), ((),), {A: 1}, None, (A, None), "a"]
        for thing in wrong + odd_things():
            for call in CALLS:
                for script in [(), SHIFT]:
                    self.refused(NoFolder, call, script, thing)
            self.refused(NoFolder, walked, SHIFT, thing, (A, B))

    def test_no_order(self):
        wrong = [
            (), (A,), (B,), (A, A), (B, B), (A, C), (C, A), (A, B, C), (A, B, A), [B, A], [], "ab", ("a", "b"),
            (A, ["b"]), (["b"], ["a"]), (A, None), (A, TOO_LONG), None, True, 0, {A: 1, B: 2}, {A, B}, (A, ()),
            ((A, B),), iter((B, A)), (A, Sullen()), (Sullen(), Sullen()), ({}, {}), (A, B, Sullen()),
        ]
        for thing in wrong + odd_things():
            for script in [(), SHIFT, MERGE, SWAP]:
                self.refused(NoOrder, walked, script, (A, B), thing)
        self.refused(NoOrder, walked, (), (), (A,))
        self.refused(NoOrder, walked, (), (), [])
        self.refused(NoOrder, walked, (), (A, B, C), (A, B, B))
        self.refused(NoOrder, walked, (), (A, B, C), (A, A, C))

    def test_of_several_the_first_is_told(self):
        for thing in odd_things():
            for call in CALLS:
                self.refused(NoScript, call, thing, thing)
            self.refused(NoScript, walked, thing, thing, thing)
            self.refused(NoScript, walked, thing, (A, B), thing)
            self.refused(NoScript, walked, thing, thing, ())
            self.refused(NoFolder, walked, SHIFT, thing, thing)
            self.refused(NoOrder, walked, ALL_X, (A, B), thing)

    def test_true_and_false_are_no_numbers_within_scripts(self):
        rule = ((("any",), ("any",)), False, (), (("field", True),))
        for call in CALLS:
            self.refused(NoScript, call, (rule,), (A,))
        self.refused(NoScript, walked, (rule,), (A,), (A,))


class NothingIsChanged(FolderCase):
    def test_lists_that_are_refused_stay(self):
        script, folder, order = [list(SHIFT[0])], [["b"], ["a"]], [["b"], ["a"]]
        for call in CALLS:
            self.refused(NoScript, call, script, folder)
            self.refused(NoFolder, call, (), folder)
        self.refused(NoOrder, walked, (), (A, B), order)
        self.assertEqual((script, folder, order), ([list(SHIFT[0])], [["b"], ["a"]], [["b"], ["a"]]))

    def test_equal_things_give_equal_answers(self):
        def answers():
            folder = tuple([tuple(["a"]), tuple(["b"])])
            return [
                at_once(SHIFT, folder), moved(SHIFT, folder), walked(SHIFT, folder, (B, A)), rings(SHIFT, folder),
                safe_order(SHIFT, folder), rings(SWAP, folder),
            ]

        before = answers()
        self.refused(Clash, at_once, MERGE, (A, B))
        self.refused(Lost, walked, SHIFT, (A, B), (A, B))
        self.assertEqual(answers(), before)


if __name__ == "__main__":
    unittest.main()
