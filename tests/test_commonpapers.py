import unittest

from alldiffs.common import common_numbers
from alldiffs.commonpapers import common_paper, is_common_paper
from alldiffs.costs import Costs
from alldiffs.mergecores import Merge
from tests.merges import settled_merges
from tests.search import Grudge, Liar, odd_values
from tests.test_mergecores import ABA, MergeCase
from tests.test_walking import BEGINNING, NO_STATES
from tests.test_writtenpapers import changed, without


def plain_weights(plain):
    """A dict from each state to the list of (weight, state behind) of its steps, by a look at what each step says."""
    base, one, two = plain.texts
    found = {}
    for state, told in plain.steps().items():
        gap, *parts, _ = state
        for chosen, (tokens, behind) in told.items():
            nodes = list(chosen)
            blocks = []
            for version, part in enumerate(parts):
                begun = isinstance(part[0], tuple)
                (i, j), (k, n) = part if begun else (part, nodes.pop(0))
                blocks.append((i, k - 1, j, n - 1))
            goes = gap < len(base) and any(i <= gap < k for i, k, _, _ in blocks)
            cost = plain.costs.going(base[gap]) if goes else 0
            come = [text[j:n] if i == gap else [] for text, (i, _, j, n) in zip((one, two), blocks)]
            if blocks[0][:2] == blocks[1][:2] and come[0] == come[1]:
                come.pop()
            cost += sum(plain.costs.coming(line) for lines in come for line in lines)
            found.setdefault(state, []).append(((sum(isinstance(token, tuple) for token in tokens), cost), behind))
    return found


def is_plain_paper(weights, bound, paper):
    """Whether a dict from states to numbers is a paper for a bound, by the words of the document."""
    for state, steps in weights.items():
        for weight, behind in steps:
            total = (paper[state][0] + weight[0], paper[state][1] + weight[1])
            if total < bound if behind is None else paper[behind] > total:
                return False
    return paper[BEGINNING] == (0, 0)


class CommonPapers(MergeCase):
    def setUp(self):
        self.merge = Merge(*ABA, Costs())

    def test_a_small_one(self):
        paper = common_paper(self.merge)
        self.assertIs(True, is_common_paper(self.merge, (0, 3), paper))
        self.assertIs(True, is_common_paper(value=common_paper(merge=self.merge), bound=(0, 3), merge=self.merge))
        self.assertIs(True, is_common_paper(self.merge, (0, 3), dict(reversed(paper.items()))))
        self.assertIs(False, is_common_paper(self.merge, (0, 4), paper))

    def test_bounds_around_the_common_numbers(self):
        for plain in settled_merges():
            merge, (clashes, cost) = plain.merge(), plain.common_numbers()
            paper = common_paper(merge)
            self.assertEqual(set(plain.steps()), set(paper))
            for bound in ((clashes, cost), (clashes, cost - 1), (clashes - 1, cost + 99), (-1, 0), (0, 0), (clashes, -5)):
                self.assertIs(True, is_common_paper(merge, bound, paper))
            for bound in ((clashes, cost + 1), (clashes + 1, 0), (clashes + 1, -99), (10 ** 25, 0)):
                self.assertIs(False, is_common_paper(merge, bound, paper))

    def test_changed_papers(self):
        found = set()
        for plain in list(settled_merges())[::2]:
            merge, weights, bound = plain.merge(), plain_weights(plain), plain.common_numbers()
            paper = common_paper(merge)
            self.assertIs(True, is_plain_paper(weights, bound, paper))
            for state in list(paper)[::3]:
                clashes, cost = paper[state]
                for numbers in ((clashes, cost + 1), (clashes, cost - 1), (clashes + 1, cost), (clashes - 1, cost), (clashes, -9)):
                    told = changed(paper, state, numbers)
                    self.assertIs(is_plain_paper(weights, bound, told), is_common_paper(merge, bound, told))
                    found.add(is_plain_paper(weights, bound, told))
                self.assertIs(False, is_common_paper(merge, bound, without(paper, state)))
        self.assertEqual({True, False}, found)

    def test_no_paper_for_more_than_the_common_numbers(self):
        # The least numbers of the steps to each state are the greatest that a paper may have; they do not reach further.
        for plain in list(settled_merges())[::5]:
            merge, weights, (clashes, cost) = plain.merge(), plain_weights(plain), plain.common_numbers()
            paper = common_paper(merge)
            for bound in ((clashes, cost + 1), (clashes + 1, 0)):
                self.assertIs(False, is_plain_paper(weights, bound, paper))
                self.assertIs(False, is_common_paper(merge, bound, paper))

    def test_for_any_bound(self):
        paper = common_paper(self.merge)
        for bound in odd_values() + [
            [0, 3], (0, True), (False, 3), (0,), (0, 3, 0), ("0", 3), (0, None), (Liar(), 3), (0, Liar()), (Grudge(), 3), (0, (3,)), 3,
        ]:
            self.assertIs(False, is_common_paper(self.merge, bound, paper))

    def test_for_any_value(self):
        merge, paper = self.merge, common_paper(self.merge)
        kept = (1, (1, 1), (1, 1), None)
        for value in odd_values() + [
            {}, list(paper.items()), tuple(paper.items()), changed(paper, kept, [0, 0]), changed(paper, kept, (False, 0)),
            changed(paper, kept, (0, False)), changed(paper, BEGINNING, (0, False)), changed(paper, BEGINNING, [0, 0]),
            changed(paper, kept, 0), changed(paper, kept, None), changed(paper, kept, (0,)), changed(paper, kept, (0, 0, 0)),
            changed(paper, kept, ("0", 0)), changed(paper, kept, Liar()), changed(paper, kept, (Liar(), 0)),
            changed(paper, kept, Grudge()), changed(paper, BEGINNING, (0, -1)), changed(paper, BEGINNING, (0, 1)),
            changed(paper, BEGINNING, (-1, 0)), {**paper, None: (0, 0)}, {**paper, Liar(): (0, 0)}, {**paper, 5: (0, 0)},
            {**without(paper, kept), (True, (1, 1), (1, 1), None): (0, 0)},
            {**without(paper, BEGINNING), (0, (0, False), (0, 0), None): (0, 0)}, {**without(paper, kept), Liar(): (0, 0)},
        ]:
            self.assertIs(False, is_common_paper(merge, (0, 3), value))
        for state in NO_STATES:
            try:
                told = {**paper, state: (0, 0)}
            except TypeError:
                continue
            if state not in paper:
                self.assertIs(False, is_common_paper(merge, (0, 3), told))
        left = merge.settled((1, 0), True)
        self.assertIs(False, is_common_paper(left, (0, 3), paper))
        self.assertIs(True, is_common_paper(left, (0, 3), common_paper(left)))

    def test_dicts_are_new(self):
        common_paper(self.merge).clear()
        self.assertEqual(7, len(common_paper(self.merge)))

    def test_a_large_one(self):
        merge = Merge(["a"] * 12, ["a"] * 7, ["b", *["a"] * 7], Costs())
        bound = common_numbers(merge)
        paper = common_paper(merge)
        self.assertIs(True, is_common_paper(merge, bound, paper))
        self.assertIs(False, is_common_paper(merge, (bound[0], bound[1] + 1), paper))


if __name__ == "__main__":
    unittest.main()
