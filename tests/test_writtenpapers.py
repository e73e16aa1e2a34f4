import unittest

from alldiffs.costs import Costs
from alldiffs.errors import NotSure
from alldiffs.mergecores import Merge
from alldiffs.walking import beginning, steps_from
from alldiffs.writtenpapers import is_written_paper, written_paper
from tests.merges import settled_merges
from tests.search import Grudge, Liar, odd_values
from tests.test_mergecores import ABA, MergeCase
from tests.test_rows import NO_CLASHES
from tests.test_walking import BEGINNING, NO_STATES


def changed(paper, state, number):
    """The paper with another number for a state."""
    return {**paper, state: number}


def without(paper, state):
    """The paper without a state."""
    return {other: paper[other] for other in paper if other != state}


class WrittenPapers(MergeCase):
    def setUp(self):
        self.open = Merge(*ABA, Costs())
        self.merge = self.open.settled((1, 0), True)

    def test_a_small_one(self):
        row, paper = written_paper(self.merge)
        self.assertEqual(("a", "c"), row)
        self.assertEqual({
            BEGINNING: 0, (1, (1, 1), (1, 1), None): 1, (2, ((1, 1), (4, 2)), (2, 3), (1, 1, 2, False, "one")): 2,
            (3, ((1, 1), (4, 2)), (3, 4), (1, 1, 2, False, "one")): 2,
        }, paper)
        self.assertIs(True, is_written_paper(self.merge, row, paper))
        self.assertIs(True, is_written_paper(value=dict(reversed(paper.items())), row=row, merge=self.merge))
        self.assertEqual((("a", "c"), paper), written_paper(merge=self.merge))

    def test_just_where_a_merge_is_sure(self):
        sure = 0
        for plain in settled_merges():
            merge, steps = plain.merge(), plain.steps()
            rows = set(plain.rows.values())
            if len(rows) > 1:
                self.not_sure(plain.core(), written_paper, merge)
                continue
            sure += 1
            row, paper = written_paper(merge)
            self.assertEqual(({row}, set(steps)), (rows, set(paper)))
            self.assertEqual(0, paper[beginning(merge)])
            for state, told in steps.items():
                for tokens, behind in told.values():
                    self.assertEqual(row[paper[state]:][:len(tokens)], tokens)
                    self.assertEqual(len(row) if behind is None else paper[behind], paper[state] + len(tokens))
            self.assertIs(True, is_written_paper(merge, row, paper))
            self.check_others(merge, row, paper)
        self.assertGreater(sure, 40)

    def check_others(self, merge, row, paper):
        for other in (row[:-1] if row else ("a",), (*row, "a"), row[::-1] + ("b",), ("q", *row[1:])):
            if other != row:
                self.assertIs(False, is_written_paper(merge, other, paper))
        for state in list(paper)[::4]:
            self.assertIs(False, is_written_paper(merge, row, without(paper, state)))
            for number in (paper[state] + 1, paper[state] - 1):
                self.assertIs(False, is_written_paper(merge, row, changed(paper, state, number)))

    def test_no_paper_of_an_open_merge(self):
        self.not_sure(((1, 0),), written_paper, self.open)
        states = {BEGINNING: 0}
        for _ in range(3):
            states.update({
                behind: states[state] + len(tokens) for state in list(states)
                for tokens, behind in steps_from(self.open, state) if behind is not None
            })
        for row in (("a", "c"), (("clash", 0, 2, (), ("a", "c", "b")), "a"), ()):
            self.assertIs(False, is_written_paper(self.open, row, states))

    def test_for_any_row(self):
        paper = written_paper(self.merge)[1]
        for row in [["a", "c"], "ac", ("a",), ("a", "c", ""), ("a", "c", "c"), ("c", "a"), ("a", Liar()), (Liar(), Liar())] + [
            value for value in odd_values() + NO_CLASHES
        ]:
            self.assertIs(False, is_written_paper(self.merge, row, paper))
        merge = Merge(["a"], ["b"], ["c"], Costs())
        row, paper = written_paper(merge)
        self.assertEqual((("clash", 0, 1, ("b",), ("c",)),), row)
        for token in (
            ["clash", 0, 1, ("b",), ("c",)], ("clash", False, 1, ("b",), ("c",)), ("clash", 0, True, ("b",), ("c",)),
            ("clash", 0, 1, ["b"], ("c",)), ("clash", 0, 1, ("c",), ("b",)), ("clash", 0, 1, ("b",), ("c", "c")),
            ("clash", 1, 1, ("b",), ("c",)), ("clash", 0, 0, ("b",), ("c",)), "clash", ("clash", 0, 1, ("b",), Liar()),
        ):
            self.assertIs(False, is_written_paper(merge, (token,), paper))

    def test_for_any_value(self):
        merge, (row, paper) = self.merge, written_paper(self.merge)
        kept = (1, (1, 1), (1, 1), None)
        for value in odd_values() + [
            {}, list(paper.items()), tuple(paper.items()), set(paper), changed(paper, kept, True), changed(paper, BEGINNING, False),
            changed(paper, kept, "1"), changed(paper, kept, None), changed(paper, kept, Liar()), changed(paper, kept, Grudge()),
            changed(paper, kept, (1,)), changed(paper, kept, 0), changed(paper, kept, -1), changed(paper, kept, 10 ** 25),
            changed(paper, BEGINNING, 1), {state: paper[state] + 1 for state in paper}, {**paper, None: 0}, {**paper, Liar(): 0},
            {**paper, (Liar(),) * 4: 0}, {**paper, (1, ((0, 0), (3, 1)), (1, 1), (0, 0, 0, False, "one")): 0},
            {**without(paper, kept), (True, (1, 1), (1, 1), None): 1}, {**without(paper, kept), (1, (1, True), (1, 1), None): 1},
            {**without(paper, BEGINNING), (False, (0, 0), (0, 0), None): 0}, {**without(paper, BEGINNING), (0, (0, 0), (0, False), None): 0},
            {**without(paper, kept), Liar(): 1}, {(*state[:3], None if state[3] is None else (*state[3][:3], 0, state[3][4])):
                                                   paper[state] for state in paper},
        ]:
            self.assertIs(False, is_written_paper(merge, row, value))
        for state in NO_STATES:
            try:
                told = {**paper, state: 0}
            except TypeError:
                continue
            if state not in paper:
                self.assertIs(False, is_written_paper(merge, row, told))

    def test_dicts_are_new(self):
        paper = written_paper(self.merge)[1]
        paper.clear()
        self.assertEqual(4, len(written_paper(self.merge)[1]))

    def test_a_large_one(self):
        merge = Merge(["a"] * 24, ["a"] * 9, ["b", "c", "d"], Costs())
        row, paper = written_paper(merge)
        self.assertEqual((("clash", 0, 24, ("a",) * 9, ("b", "c", "d")),), row)
        self.assertIs(True, is_written_paper(merge, row, paper))
        self.assertIs(False, is_written_paper(merge, row, without(paper, BEGINNING)))

    def test_not_sure_has_the_core(self):
        with self.assertRaises(NotSure) as caught:
            written_paper(Merge(["a"], ["a", "a"], ["a", "a"], Costs()))
        self.assertEqual(((1, 0), (2, 0)), caught.exception.matters)


if __name__ == "__main__":
    unittest.main()
