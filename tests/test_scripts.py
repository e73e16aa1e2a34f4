import unittest

from alldiffs.diffs import is_diff
from alldiffs.errors import InvalidDiff, InvalidScript, InvalidText
from alldiffs.scripts import (
    applied, diff_of, is_plain, is_script, played_entries, script_of, texts_of, turned_script,
)
from tests.search import Grudge, Liar, all_diffs, odd_values, texts_up_to

OLD = ["x", "p", "p", "y"]
NEW = ["x", "p", "z"]
DIFF = ((1, 1), (3, 2))
SCRIPT = [("keep", "x"), ("go", "p"), ("keep", "p"), ("go", "y"), ("come", "z")]
NO_ENTRIES = [
    ["keep", "x"], ("keep",), ("keep", "x", "y"), ("Keep", "x"), ("keep ", "x"), ("", "x"), ("kept", "x"),
    ("keep", "x\n"), ("keep", 1), ("keep", None), ("keep", b"x"), ("keep", ["x"]), (b"keep", "x"), (1, "x"),
    (None, "x"), (True, "x"), (["keep"], "x"), (("keep",), "x"), "keep", "ke", None, 5, {}, (), {"keep", "x"},
    {"keep": 1, "x": 2}, (Liar(), "x"), ("keep", Liar()), (Grudge(), "x"), ("go", Grudge()), Liar(), Grudge(),
]
NO_LISTS = [None, True, 0, 1, "", "keep", b"", {}, set(), {"keep"}, object(), Liar(), Grudge(), iter([]), range(0)]
LONG = [("keep", "a")] * 60
READERS = (diff_of, texts_of, is_plain, turned_script)


def short_scripts(length):
    """All scripts of so many entries with the lines a and b."""
    if length == 0:
        return [[]]
    entries = [(word, line) for word in ("keep", "go", "come") for line in "ab"]
    return [[*rest, entry] for rest in short_scripts(length - 1) for entry in entries]


class ScriptCase(unittest.TestCase):
    def refused(self, index, call, *args, **named):
        with self.assertRaises(InvalidScript) as caught:
            call(*args, **named)
        self.assertEqual(index, caught.exception.index)
        self.assertIs(type(index), type(caught.exception.index))


class WhatIsAScript(ScriptCase):
    def test_scripts(self):
        for value in ([], (), SCRIPT, tuple(SCRIPT), [("come", "")], LONG, [("go", "a")] * 60, [("come", "a")] * 60,
                      [("go", "a")] * 60 + [("come", "a")] * 60, [("go", "b"), ("come", "a")] * 60,
                      [("keep", "a"), ("come", "b"), ("go", "c")] * 30):
            self.assertIs(True, is_script(value))

    def test_what_is_none(self):
        for value in NO_LISTS:
            self.assertIs(False, is_script(value))
            for call in READERS:
                self.refused(None, call, value)
            self.refused(None, applied, [], value)
            self.refused(None, lambda: next(played_entries([], value)))

    def test_for_any_value(self):
        for value in odd_values():
            self.assertIs(False, is_script(value))
            for call in READERS:
                with self.assertRaises(InvalidScript):
                    call(value)

    def test_items_that_are_no_entries(self):
        for wrong in NO_ENTRIES:
            for index in range(3):
                script = [("keep", "x"), ("go", "p"), ("come", "q")]
                script[index] = wrong
                for value in (script, tuple(script), script + [wrong, None]):
                    self.assertIs(False, is_script(value))
                    for call in READERS:
                        self.refused(index, call, value)
                    self.refused(index, applied, ["x", "p"], value)
                    self.refused(index, lambda: next(played_entries(["x", "p"], value)))

    def test_one_too_many(self):
        cases = [
            (60, [("keep", "a")] * 61), (60, [("go", "a")] * 61), (60, [("come", "a")] * 61),
            (60, [("keep", "a")] * 60 + [("go", "a")]), (60, [("keep", "a")] * 60 + [("come", "a")]),
            (120, [("go", "a")] * 60 + [("come", "a")] * 61), (120, [("go", "b"), ("come", "a")] * 60 + [("go", "a")]),
            (120, [("go", "b"), ("come", "a")] * 60 + [("keep", "a")]), (90, [("keep", "a")] * 30 + [("go", "b")] * 30
                                                                        + [("come", "c")] * 30 + [("come", "c")]),
            (60, [("keep", "a")] * 61 + [None]), (59, [("keep", "a")] * 59 + [None] + [("keep", "a")] * 5),
        ]
        for index, value in cases:
            self.assertIs(False, is_script(value))
            for call in READERS:
                self.refused(index, call, value)
            self.refused(index, applied, ["a"] * 60, value)


class ThereAndBack(ScriptCase):
    def test_the_example(self):
        self.assertEqual(SCRIPT, script_of(OLD, NEW, DIFF))
        self.assertEqual(["x", "p", "z"], applied(OLD, script_of(OLD, NEW, DIFF)))

    def test_goings_ahead_of_comings(self):
        self.assertEqual(
            [("go", "a"), ("go", "b"), ("come", "c"), ("come", "d"), ("keep", "x"), ("go", "e"), ("come", "f")],
            script_of(("a", "b", "x", "e"), ("c", "d", "x", "f"), ((3, 3),)),
        )
        self.assertEqual([], script_of([], [], ()))
        self.assertEqual([("come", "a")], script_of([], ["a"], ()))
        self.assertEqual([("go", "a")], script_of(["a"], [], ()))
        self.assertEqual([("keep", "a")], script_of(diff=((1, 1),), new=["a"], old=["a"]))
        self.assertEqual(LONG, script_of(["a"] * 60, ["a"] * 60, tuple((k, k) for k in range(1, 61))))

    def test_a_diff_and_its_script(self):
        for old in texts_up_to(3, "ab"):
            for new in texts_up_to(3, "ab"):
                told = set()
                for diff in all_diffs(old, new):
                    script = script_of(old, new, diff)
                    self.assertIs(True, is_script(script))
                    self.assertEqual(diff, diff_of(script))
                    self.assertEqual((old, new), texts_of(script))
                    self.assertIs(True, is_plain(script))
                    self.assertEqual(new, applied(old, script))
                    self.assertEqual(old, applied(new, turned_script(script)))
                    told.add(tuple(script))
                self.assertEqual(len(all_diffs(old, new)), len(told))

    def test_each_short_script(self):
        for length in range(4):
            for script in short_scripts(length):
                self.assertIs(True, is_script(script))
                old, new = texts_of(script)
                diff = diff_of(script)
                self.assertIs(True, is_diff(old, new, diff))
                self.assertEqual(sum(word == "keep" for word, _ in script), len(diff))
                self.assertIs(script == script_of(old, new, diff), is_plain(script))
                self.assertIs(script == script_of(old, new, diff), is_plain(tuple(script)))
                self.assertEqual(new, applied(old, script))
                turned = turned_script(script)
                self.assertEqual((new, old), texts_of(turned))
                self.assertEqual(old, applied(new, turned))
                self.assertEqual(script, turned_script(turned))

    def test_plain(self):
        self.assertIs(True, is_plain([]))
        self.assertIs(True, is_plain([("go", "a"), ("come", "b")]))
        self.assertIs(False, is_plain([("come", "b"), ("go", "a")]))
        self.assertIs(False, is_plain([("go", "a"), ("come", "b"), ("go", "c")]))
        self.assertIs(True, is_plain(entries=(("come", "b"), ("keep", "x"), ("go", "a"))))

    def test_turned_about(self):
        self.assertEqual(
            [("come", "a"), ("go", "b"), ("keep", "c")], turned_script([("go", "a"), ("come", "b"), ("keep", "c")])
        )
        self.assertEqual([], turned_script(()))
        self.assertEqual([("come", "a")], turned_script(entries=(("go", "a"),)))

    def test_texts_and_diff_of_a_script(self):
        self.assertEqual((OLD, NEW), texts_of(SCRIPT))
        self.assertEqual(DIFF, diff_of(tuple(SCRIPT)))
        self.assertEqual((([], []), ()), (texts_of([]), diff_of([])))
        self.assertEqual((["a", "c"], ["b"]), texts_of(entries=[("go", "a"), ("come", "b"), ("go", "c")]))
        self.assertEqual(((2, 2),), diff_of(entries=[("come", "b"), ("go", "a"), ("keep", "c")]))

    def test_lists_are_new_and_arguments_are_not_changed(self):
        script = list(SCRIPT)
        for call in (texts_of, turned_script):
            first = call(script)
            told = repr(first)
            (first[0] if call is texts_of else first).clear()
            self.assertEqual(told, repr(call(script)))
        script_of(OLD, NEW, DIFF).clear()
        applied(OLD, script).clear()
        self.assertEqual((NEW, SCRIPT), (applied(OLD, script), script))
        both = texts_of([("keep", "a")])
        self.assertIsNot(both[0], both[1])

    def test_what_script_of_refuses(self):
        for old, new, diff, error, value in (
            ("o", "n", 5, InvalidText, "o"), (OLD, "n", 5, InvalidText, "n"), (OLD, NEW, 5, InvalidDiff, 5),
            (OLD, NEW, [(1, 1)], InvalidDiff, [(1, 1)]), (["a"] * 61, NEW, 5, InvalidText, ["a"] * 61),
        ):
            with self.assertRaises(error) as caught:
                script_of(old, new, diff)
            self.assertEqual(value, caught.exception.value)


class Applied(ScriptCase):
    def test_to_texts_that_fit(self):
        self.assertEqual(NEW, applied(tuple(OLD), tuple(SCRIPT)))
        self.assertEqual([], applied([], []))
        self.assertEqual(["b", "a"], applied(["a", "c"], [("come", "b"), ("keep", "a"), ("go", "c")]))
        self.assertEqual([], applied(entries=[("go", "a")], old=["a"]))
        self.assertEqual(["a"] * 60, applied(["a"] * 60, LONG))
        self.assertEqual(["b"] * 60, applied(["a"] * 60, [("go", "a"), ("come", "b")] * 60))

    def test_to_texts_that_do_not_fit(self):
        self.refused(0, applied, ["y", "p", "p", "y"], SCRIPT)
        self.refused(1, applied, ["x", "q", "p", "y"], SCRIPT)
        self.refused(3, applied, ["x", "p", "p", "Y"], SCRIPT)
        self.refused(0, applied, [], [("keep", "a")])
        self.refused(0, applied, [], [("go", "a")])
        self.refused(2, applied, ["a"], [("keep", "a"), ("come", "b"), ("go", "a")])
        self.refused(1, applied, ["a"], [("keep", "a"), ("keep", "a")])

    def test_lines_that_are_left(self):
        self.refused(0, applied, ["a"], [])
        self.refused(1, applied, ["a", "b"], [("keep", "a")])
        self.refused(5, applied, [*OLD, "more"], SCRIPT)
        self.refused(1, applied, ["a"], [("come", "a")])

    def test_texts_then_scripts_then_what_fits(self):
        for value in odd_values() + ["o", ["a"] * 61]:
            with self.assertRaises(InvalidText) as caught:
                applied(value, None)
            self.assertIs(value, caught.exception.value)
            with self.assertRaises(InvalidText) as caught:
                next(played_entries(entries=None, old=value))
            self.assertIs(value, caught.exception.value)
        self.refused(None, applied, ["a"], None)
        self.refused(1, applied, ["a"], [("go", "b"), ("go", 5)])


class Played(ScriptCase):
    def test_entry_by_entry(self):
        self.assertEqual(
            [(1, ["x"]), (2, ["x"]), (3, ["x", "p"]), (4, ["x", "p"]), (4, ["x", "p", "z"])],
            list(played_entries(OLD, SCRIPT)),
        )
        self.assertEqual([], list(played_entries([], [])))
        self.assertEqual([(0, ["a"]), (1, ["a"])], list(played_entries(
            entries=(("come", "a"), ("go", "b")), old=("b",)
        )))

    def test_a_new_list_each_time(self):
        kept = []
        for done, result in played_entries(OLD, SCRIPT):
            kept.append((done, list(result)))
            result.clear()
            result.append("other")
        self.assertEqual(list(played_entries(OLD, SCRIPT)), kept)
        lists = [result for _, result in played_entries(OLD, SCRIPT)]
        self.assertEqual(5, len({id(result) for result in lists}))

    def test_an_error_when_it_comes_to_it(self):
        played = played_entries(["x", "q"], SCRIPT)
        self.assertEqual((1, ["x"]), next(played))
        self.refused(1, next, played)
        played = played_entries(["x", "p", "p"], SCRIPT)
        self.assertEqual([1, 2, 3], [next(played)[0] for _ in range(3)])
        self.refused(3, next, played)

    def test_an_error_at_the_end(self):
        played = played_entries([*OLD, "more"], SCRIPT)
        self.assertEqual([1, 2, 3, 4, 4], [next(played)[0] for _ in range(5)])
        self.refused(5, next, played)
        self.refused(0, next, played_entries(["a"], []))
        played = played_entries(OLD, SCRIPT)
        self.assertEqual(5, len([next(played) for _ in range(5)]))
        with self.assertRaises(StopIteration):
            next(played)

    def test_no_script_is_told_with_the_first_one(self):
        self.refused(4, next, played_entries(["x"], [("keep", "x"), ("go", "y"), ("go", "z"), ("go", "z"), 5]))
        self.refused(60, next, played_entries(["a"] * 60, [("keep", "a")] * 61))

    def test_later_changes_have_no_effect(self):
        old, script = list(OLD), list(SCRIPT)
        played = played_entries(old, script)
        told = [next(played)]
        old[:] = ["other"]
        script[:] = []
        told += list(played)
        self.assertEqual(list(played_entries(OLD, SCRIPT)), told)
        old, script = list(OLD), list(SCRIPT)
        list(played_entries(old, script))
        self.assertEqual((OLD, SCRIPT), (old, script))

    def test_two_beside_one_another(self):
        one, other = played_entries(OLD, SCRIPT), played_entries(["a"], [("keep", "a"), ("come", "b")])
        told = [next(one), next(other), next(one), next(other)]
        self.assertEqual([(1, ["x"]), (1, ["a"]), (2, ["x"]), (1, ["a", "b"])], told)


if __name__ == "__main__":
    unittest.main()
