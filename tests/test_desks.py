"""Point 11: desks."""

import unittest
from random import Random

from namescripts.desks import Desk
from namescripts.errors import (
    Clash, Full, NoDeed, NoName, NoScript, NoWord, NotThere, Taken, TooLong, TurnError,
)
from namescripts.folders import at_once, moved
from tests.samples import (
    A, B, C, D, LONG, MERGE, SHIFT, SWAP, TOO_LONG, WHEEL, Sullen, names_over, odd_things, rename,
)
from tests.search import drawn_scripts

ADD = (((), True, (), (("word", "x"), ("rest",))),)
TURN = (((("any",),), True, (("any",),), (("field", 1), ("rest",), ("field", 0))),)
ALL_X = (((), True, (), (("word", "x"),)),)
FULL = tuple(sorted((p, q) for p in "abcdef" for q in "vwxyz"))
NO_WORDS = ["", "A", "abcdefg", "a b", "a1", "\u00e9", ("a",), ["a"], b"a", 0, None, True, A]


def desk_of(*names, **scripts):
    desk = Desk()
    for name in names:
        desk.put(name)
    for word, script in scripts.items():
        desk.keep(word, script)
    return desk


def state(desk):
    """All that a desk tells of how it stands."""
    return (
        desk.folder(), [desk.past(name) for name in desk.folder()], desk.words(),
        [desk.kept(word) for word in desk.words()], len(desk),
    )


def unwound(desk):
    """How a twin of the desk stands, and stood before each deed, the last one first."""
    twin = desk.twin()
    rows = [state(twin)]
    while True:
        try:
            twin.undo()
        except NoDeed:
            return rows
        rows.append(state(twin))


class DeskCase(unittest.TestCase):
    def refused(self, error, desk, call, *things):
        """It is refused so, and changes nothing, not even what can be undone."""
        before = unwound(desk)
        with self.assertRaises(error) as caught:
            getattr(desk, call)(*things)
        self.assertIs(caught.exception.__class__, error)
        self.assertEqual(unwound(desk), before)
        return caught.exception


class Deeds(DeskCase):
    def test_at_first_there_is_nothing(self):
        self.assertEqual(state(Desk()), ((), [], [], [], 0))
        self.refused(NoDeed, Desk(), "undo")

    def test_deeds_are_none(self):
        desk = Desk()
        self.assertIsNone(desk.put(A))
        self.assertIsNone(desk.keep("s", SHIFT))
        self.assertIsNone(desk.do("s"))
        self.assertIsNone(desk.take(B))
        self.assertIsNone(desk.drop("s"))
        self.assertIsNone(desk.undo())

    def test_put_and_take(self):
        desk = desk_of(C, A, B)
        self.assertEqual(desk.folder(), (A, B, C))
        self.assertEqual(len(desk), 3)
        desk.take(A)
        self.assertEqual(desk.folder(), (B, C))
        self.assertEqual(len(desk), 2)
        desk.put(LONG)
        self.assertEqual(desk.folder(), (LONG, B, C))
        for name in (LONG, B, C):
            desk.take(name)
        self.assertEqual(state(desk), ((), [], [], [], 0))

    def test_keep_and_drop(self):
        desk = desk_of(b=SHIFT, a=(), abcdef=SHIFT)
        self.assertEqual(desk.words(), ["a", "abcdef", "b"])
        self.assertEqual([desk.kept(word) for word in desk.words()], [(), SHIFT, SHIFT])
        desk.drop("abcdef")
        self.assertEqual(desk.words(), ["a", "b"])
        desk.keep("abcdef", SWAP)
        self.assertEqual(desk.kept("abcdef"), SWAP)

    def test_do(self):
        desk = desk_of(A, B, D, s=SHIFT, w=SWAP, n=())
        desk.do("s")
        self.assertEqual(desk.folder(), (B, C, D))
        desk.do("n")
        desk.do("w")
        self.assertEqual(desk.folder(), (A, C, D))
        desk.drop("w")
        self.refused(NotThere, desk, "do", "w")

    def test_folders_of_none_and_of_30(self):
        desk = desk_of(x=ALL_X, t=TURN, a=ADD)
        desk.do("x")
        self.assertEqual(desk.folder(), ())
        for name in FULL[::-1]:
            desk.put(name)
        self.assertEqual(desk.folder(), FULL)
        self.assertEqual(len(desk), 30)
        desk.do("t")
        self.assertEqual(desk.folder(), tuple(sorted((q, p) for p, q in FULL)))
        desk.do("t")
        desk.do("a")
        self.assertEqual(desk.folder(), tuple(("x",) + name for name in FULL))

    def test_scripts_may_be_many(self):
        desk = Desk()
        words = [one + two for one in "abcde" for two in "abcdefgh"]
        for word in words[::-1]:
            desk.keep(word, (rename(A, (word,)),))
        self.assertEqual(desk.words(), words)
        self.assertEqual(desk.kept("bd"), (rename(A, ("bd",)),))


class Pasts(DeskCase):
    def test_one_more_name_for_each_time_that_a_file_was_moved(self):
        desk = desk_of(A, B, D, s=WHEEL)
        self.assertEqual(desk.past(A), [A])
        desk.do("s")
        self.assertEqual([desk.past(name) for name in (A, B, C, D) if name in desk.folder()], [[A, B], [B, C], [D]])
        desk.do("s")
        self.assertEqual(desk.past(C), [A, B, C])
        self.assertEqual(desk.past(A), [B, C, A])
        desk.do("s")
        self.assertEqual(desk.past(A), [A, B, C, A])
        self.assertEqual(desk.past(D), [D])

    def test_a_name_made_of_itself_is_not_moved(self):
        desk = desk_of(A, ("p", "q"), s=(rename(A, A),) + TURN)
        desk.do("s")
        self.assertEqual(desk.past(A), [A])
        self.assertEqual(desk.past(("q", "p")), [("p", "q"), ("q", "p")])

    def test_a_file_put_in_again_is_another_one(self):
        desk = desk_of(A, s=SHIFT)
        desk.do("s")
        desk.put(A)
        self.assertEqual((desk.past(A), desk.past(B)), ([A], [A, B]))
        desk.take(B)
        desk.put(B)
        self.assertEqual(desk.past(B), [B])
        desk.undo()
        desk.undo()
        self.assertEqual(desk.past(B), [A, B])

    def test_long_pasts(self):
        desk = desk_of(A, B, s=SWAP)
        for _ in range(3000):
            desk.do("s")
        self.assertEqual(desk.past(A), [A, B] * 1500 + [A])
        for _ in range(1001):
            desk.undo()
        self.assertEqual(desk.past(A), [B, A] * 1000)


class Undo(DeskCase):
    def test_each_deed(self):
        desk = Desk()
        rows = [state(desk)]
        deeds = [
            ("put", A), ("put", D), ("keep", "s", SHIFT), ("do", "s"), ("do", "s"), ("put", A), ("keep", "t", TURN),
            ("do", "t"), ("drop", "s"), ("take", C), ("keep", "s", SWAP), ("do", "s"), ("take", B), ("take", D),
            ("drop", "t"), ("drop", "s"),
        ]
        for call, *things in deeds:
            getattr(desk, call)(*things)
            rows.append(state(desk))
        self.assertEqual(unwound(desk), rows[::-1])
        for row in rows[-2::-1]:
            desk.undo()
            self.assertEqual(state(desk), row)
        for _ in range(3):
            self.refused(NoDeed, desk, "undo")
        desk.put(B)
        desk.undo()
        self.refused(NoDeed, desk, "undo")

    def test_a_script_that_moves_nothing_is_a_deed(self):
        desk = desk_of(D, s=SHIFT)
        desk.do("s")
        desk.undo()
        self.assertEqual((desk.folder(), desk.words()), ((D,), ["s"]))
        desk.undo()
        self.assertEqual((desk.folder(), desk.words()), ((D,), []))
        empty = desk_of(s=())
        empty.do("s")
        empty.undo()
        self.assertEqual(empty.words(), ["s"])

    def test_undoing_is_no_deed(self):
        desk = desk_of(A, B, C)
        desk.undo()
        desk.undo()
        self.assertEqual(desk.folder(), (A,))
        desk.put(D)
        desk.undo()
        self.assertEqual(desk.folder(), (A,))
        desk.undo()
        self.assertEqual(desk.folder(), ())
        self.refused(NoDeed, desk, "undo")

    def test_what_is_refused_is_no_deed(self):
        desk = desk_of(A, B, m=MERGE)
        self.refused(Clash, desk, "do", "m")
        self.refused(Taken, desk, "put", A)
        desk.undo()
        self.assertEqual((desk.folder(), desk.words()), ((A, B), []))


class Twins(DeskCase):
    def test_a_twin_stands_just_so_with_all_that_can_be_undone(self):
        desk = desk_of(A, B, s=WHEEL)
        desk.do("s")
        desk.do("s")
        twin = desk.twin()
        self.assertIs(twin.__class__, Desk)
        self.assertIsNot(twin, desk)
        self.assertEqual(unwound(twin), unwound(desk))
        self.assertEqual(len(unwound(twin)), 6)

    def test_neither_changes_the_other(self):
        desk = desk_of(A, B, s=WHEEL)
        desk.do("s")
        for changed, kept in [(0, 1), (1, 0)]:
            pair = [desk.twin(), desk.twin()]
            before = unwound(pair[kept])
            for call, *things in [("put", D), ("keep", "t", TURN), ("do", "s"), ("take", D), ("drop", "s")]:
                getattr(pair[changed], call)(*things)
                self.assertEqual(unwound(pair[kept]), before)
            for _ in range(9):
                pair[changed].undo()
                self.assertEqual(unwound(pair[kept]), before)
            self.refused(NoDeed, pair[changed], "undo")
            pair[kept].undo()
            self.assertEqual(unwound(pair[kept]), before[1:])

    def test_twins_of_twins_and_of_new_desks(self):
        desk = Desk()
        twin = desk.twin()
        desk.put(A)
        self.assertEqual(state(twin), state(Desk()))
        self.refused(NoDeed, twin, "undo")
        other = desk.twin().twin()
        desk.take(A)
        self.assertEqual(other.folder(), (A,))
        other.undo()
        self.assertEqual(other.folder(), ())
        self.assertEqual(len(unwound(desk)), 3)

    def test_an_undone_desk_has_an_undone_twin(self):
        desk = desk_of(A, B)
        desk.undo()
        twin = desk.twin()
        twin.undo()
        self.refused(NoDeed, twin, "undo")
        self.assertEqual(desk.folder(), (A,))


class Refusals(DeskCase):
    def test_put(self):
        desk = desk_of(A)
        for thing in odd_things() + [(), ["a"], "a", TOO_LONG]:
            self.refused(NoName, desk, "put", thing)
        self.refused(Taken, desk, "put", A)
        full = desk_of(*FULL)
        self.refused(Full, full, "put", A)
        self.refused(Taken, full, "put", FULL[7])
        self.refused(NoName, full, "put", TOO_LONG)
        full.take(FULL[0])
        full.put(A)
        self.refused(Full, full, "put", FULL[0])

    def test_take_and_past(self):
        desk = desk_of(A, s=SHIFT)
        desk.do("s")
        for call in ("take", "past"):
            for thing in odd_things() + [(), ["b"], "b", TOO_LONG]:
                self.refused(NoName, desk, call, thing)
            for name in (A, C, ("b", "b"), LONG):
                self.refused(NotThere, desk, call, name)

    def test_keep(self):
        desk = desk_of(s=SHIFT)
        for thing in odd_things() + NO_WORDS:
            self.refused(NoWord, desk, "keep", thing, SHIFT)
            self.refused(NoWord, desk, "keep", thing, thing)
            self.refused(Taken, desk, "keep", "s", thing)
        for thing in odd_things() + [SHIFT[0], list(SHIFT), SHIFT * 3, (SHIFT,)]:
            self.refused(NoScript, desk, "keep", "t", thing)
        self.refused(Taken, desk, "keep", "s", SHIFT)
        self.refused(NoScript, desk, "keep", "t", (((("any",),) * 2, False, (), (("field", True),)),))

    def test_drop_do_and_kept(self):
        desk = desk_of(A, s=SHIFT)
        for call in ("drop", "do", "kept"):
            for thing in odd_things() + NO_WORDS:
                self.refused(NoWord, desk, call, thing)
            for word in ("a", "t", "ss", "sssss"):
                self.refused(NotThere, desk, call, word)

    def test_clash(self):
        desk = desk_of(A, B, D, m=MERGE, x=ALL_X, s=SHIFT)
        self.assertEqual(self.refused(Clash, desk, "do", "m").told, (A, B))
        self.assertEqual(self.refused(Clash, desk, "do", "x").told, (A, B, D))
        desk.put(C)
        self.assertEqual(self.refused(Clash, desk, "do", "m").told, (A, B, C))
        self.assertEqual(self.refused(Clash, desk, "do", "s").told, (B, C))
        self.assertIs(self.refused(Clash, desk, "do", "s").told.__class__, tuple)

    def test_too_long(self):
        desk = desk_of(LONG, A, B, a=ADD, m=MERGE + ADD)
        self.refused(TooLong, desk, "do", "a")
        self.assertEqual(self.refused(Clash, desk, "do", "m").told, (A, B))
        desk.take(B)
        self.refused(TooLong, desk, "do", "m")
        desk.take(LONG)
        desk.put(LONG[1:])
        desk.do("a")
        self.assertEqual(desk.folder(), (("x", "a"), ("x",) + LONG[1:]))
        self.refused(TooLong, desk, "do", "a")


class AgainstPlainReading(DeskCase):
    """Desks against all deeds that are not undone, each time read anew from the first one on."""

    def read(self, deeds):
        files, scripts = {}, {}
        for call, *things in deeds:
            if call == "put":
                files[things[0]] = [things[0]]
            elif call == "take":
                del files[things[0]]
            elif call == "keep":
                scripts[things[0]] = things[1]
            elif call == "drop":
                del scripts[things[0]]
            else:
                script, folder = scripts[things[0]], tuple(sorted(files))
                gone = moved(script, folder)
                turned = {at_once(script, (name,))[0]: name for name in folder}
                files = {to: files[name] + [to] * (name in gone) for to, name in turned.items()}
        folder, words = tuple(sorted(files)), sorted(scripts)
        return folder, [files[name] for name in folder], words, [scripts[word] for word in words], len(folder)

    def test_drawn_deeds(self):
        names = names_over("ab", 3)
        done = 0
        for seed in range(60):
            dice = Random(seed)
            scripts = [script for script, _ in drawn_scripts(seed, 12)]
            desk, deeds = Desk(), []
            for _ in range(60):
                call = dice.choice(["put", "put", "take", "keep", "drop", "do", "do", "do", "undo"])
                things = {"put": [dice.choice(names)], "take": [dice.choice(desk.folder() or names)], "undo": []}.get(
                    call, [dice.choice("pqrs")] + [dice.choice(scripts)] * (call == "keep"))
                try:
                    getattr(desk, call)(*things)
                except TurnError:
                    self.assertEqual(state(desk), self.read(deeds))
                    continue
                done += call == "do"
                if call == "undo":
                    deeds.pop()
                else:
                    deeds.append((call, *things))
                self.assertEqual(state(desk), self.read(deeds))
            rows = unwound(desk)
            self.assertEqual(rows, [self.read(deeds[:many]) for many in range(len(deeds), -1, -1)])
        self.assertGreater(done, 200)


class NothingIsChanged(DeskCase):
    def test_lists_that_are_told_are_new_ones(self):
        desk = desk_of(A, s=SHIFT)
        desk.do("s")
        before = unwound(desk)
        desk.words().append("t")
        desk.past(B).clear()
        self.assertEqual(unwound(desk), before)
        self.assertIs(desk.words().__class__, list)
        self.assertIs(desk.past(B).__class__, list)
        self.assertIs(desk.folder().__class__, tuple)

    def test_folders_told_stay_as_they_are(self):
        desk = desk_of(A, s=SHIFT)
        folder, past = desk.folder(), desk.past(A)
        desk.do("s")
        self.assertEqual((folder, past), ((A,), [A]))

    def test_asking_changes_nothing(self):
        desk = desk_of(A, B, s=WHEEL)
        desk.do("s")
        before = unwound(desk)
        for _ in range(2):
            state(desk)
            desk.twin()
        self.assertEqual(unwound(desk), before)

    def test_desks_behind_the_same_calls_are_equal_and_apart(self):
        one, other = desk_of(A, B, s=WHEEL), desk_of(A, B, s=tuple(list(WHEEL)))
        one.do("s")
        other.do("s")
        self.assertEqual(unwound(one), unwound(other))
        one.undo()
        self.assertEqual(len(unwound(other)), len(unwound(one)) + 1)
        self.assertEqual(state(Desk()), ((), [], [], [], 0))

    def test_things_refused_stay(self):
        desk, name, script = Desk(), ["a"], [list(SHIFT[0])]
        self.refused(NoName, desk, "put", name)
        self.refused(NoScript, desk, "keep", "s", script)
        self.refused(NoWord, desk, "keep", Sullen(), script)
        self.assertEqual((name, script), (["a"], [list(SHIFT[0])]))


if __name__ == "__main__":
    unittest.main()
