import unittest
from itertools import combinations

from alldiffs.costs import Costs
from alldiffs.diffs import (
    blocks_of, come_lines, cost_of, gone_lines, is_diff, joined_diffs, kept_lines, partner_of, turned_about,
    turned_over,
)
from alldiffs.errors import InvalidCosts, InvalidDiff, InvalidLine, InvalidText
from tests.search import all_diffs, odd_values, price, texts_up_to

OLD = ["x", "p", "p", "y"]
NEW = ["x", "p", "z"]
DIFF = ((1, 1), (3, 2))
NO_DIFFS = [
    [(1, 1)], ([1, 1],), ((1,),), ((1, 1, 1),), ((True, 1),), ((1, True),), ((True, True),), ((0, 0),), ((0, 1),),
    ((1, 0),), ((1, 2),), ((4, 3),), ((5, 1),), ((1, 4),), ((-3, 1),), ((1, -2),), ((5, 4),), ((1, 1), (1, 1)),
    ((3, 2), (1, 1)), ((2, 2), (3, 2)), ((1, 1), (2, 1)), ((1, 1), None), ((1, 1), (3, True)), ((1, 1), [3, 2]),
    ("11",), ("x",), 1, "", {(1, 1): 1}, ((1, 1), (3, 2), (4, 3)), (1, 1), (((1, 1),),),
]


class DiffCase(unittest.TestCase):
    def refused(self, error, value, call, *args, **named):
        with self.assertRaises(error) as caught:
            call(*args, **named)
        name = "number" if error is InvalidLine else "value"
        self.assertIs(value, getattr(caught.exception, name))
        return caught.exception


class WhatIsADiff(DiffCase):
    def test_diffs(self):
        for diff in ((), ((1, 1),), ((3, 2),), ((1, 1), (2, 2)), DIFF):
            self.assertIs(True, is_diff(OLD, NEW, diff))
        self.assertIs(True, is_diff([], [], ()))
        self.assertIs(True, is_diff(new=tuple(NEW), value=DIFF, old=tuple(OLD)))

    def test_what_is_none(self):
        for value in NO_DIFFS + odd_values():
            self.assertIs(False, is_diff(OLD, NEW, value))
        self.assertIs(False, is_diff(OLD, NEW, []))
        self.assertIs(False, is_diff([], [], ((1, 1),)))
        self.assertIs(False, is_diff(["a"], ["b"], ((1, 1),)))
        self.assertIs(False, is_diff(["a", "a"], ["a", "a"], ((1, 2), (2, 1))))
        self.assertIs(False, is_diff(["a", "a"], ["a", "a"], ((1, 1), (2, 1))))
        self.assertIs(False, is_diff(["a", "a"], ["a", "a"], ((1, 1), (1, 2))))

    def test_all_tuples_of_pairs_of_short_texts(self):
        old, new = ["a", "b", "a"], ["b", "a", "a"]
        pairs = [(i, j) for i in range(4) for j in range(4)]
        diffs = [value for many in range(4) for value in combinations(pairs, many) if is_diff(old, new, value)]
        self.assertEqual(sorted(all_diffs(old, new)), sorted(diffs))

    def test_long_texts(self):
        lines = ["a"] * 60
        self.assertIs(True, is_diff(lines, lines, tuple((k, k) for k in range(1, 61))))
        self.assertIs(False, is_diff(lines, lines, tuple((k, k) for k in range(1, 62))))


class WhatADiffSays(DiffCase):
    def test_the_example_of_blocks(self):
        self.assertEqual([(0, 1, 0, 1)], blocks_of(("a", "x"), ("b", "x"), ((2, 2),)))

    def test_the_example_of_the_interface(self):
        self.assertEqual([(1, 2, 1, 1), (3, 4, 2, 3)], blocks_of(OLD, NEW, DIFF))
        self.assertEqual(11, cost_of(OLD, NEW, DIFF, Costs(2, 1, {"z": (2, 7)})))

    def test_blocks(self):
        self.assertEqual([], blocks_of([], [], ()))
        self.assertEqual([], blocks_of(["a", "b"], ["a", "b"], ((1, 1), (2, 2))))
        self.assertEqual([(0, 2, 0, 1)], blocks_of(["a", "b"], ["c"], ()))
        self.assertEqual([(0, 0, 0, 1)], blocks_of([], ["c"], ()))
        self.assertEqual([(0, 1, 0, 0)], blocks_of(["c"], [], ()))
        self.assertEqual([(1, 1, 1, 2)], blocks_of(["a"], ["a", "b"], ((1, 1),)))
        self.assertEqual([(1, 2, 1, 1)], blocks_of(["a", "b"], ["a"], ((1, 1),)))
        self.assertEqual([(0, 1, 0, 0)], blocks_of(["a", "b"], ["b"], ((2, 1),)))
        self.assertEqual([(0, 0, 0, 1)], blocks_of(["b"], ["a", "b"], ((1, 2),)))
        self.assertEqual([(0, 1, 0, 1), (2, 3, 2, 4), (4, 4, 5, 6)], blocks_of(
            ["q", "a", "r", "a"], ["s", "a", "t", "u", "a", "v"], ((2, 2), (4, 5))
        ))

    def test_lines(self):
        self.assertEqual([2, 4], gone_lines(OLD, NEW, DIFF))
        self.assertEqual([3], come_lines(OLD, NEW, DIFF))
        self.assertEqual([1, 3], kept_lines(OLD, NEW, DIFF))
        self.assertEqual(([1, 2, 3, 4], [1, 2, 3], []), (
            gone_lines(OLD, NEW, ()), come_lines(OLD, NEW, ()), kept_lines(OLD, NEW, ())
        ))
        self.assertEqual(([], [], []), (gone_lines([], [], ()), come_lines([], [], ()), kept_lines([], [], ())))

    def test_partners(self):
        self.assertEqual([1, None, 2, None], [partner_of(OLD, NEW, DIFF, i) for i in (1, 2, 3, 4)])
        self.assertEqual(2, partner_of(i=3, diff=DIFF, new=NEW, old=OLD))

    def test_costs(self):
        self.assertEqual(0, cost_of([], [], (), Costs()))
        self.assertEqual(0, cost_of(["a"], ["a"], ((1, 1),), Costs(5, 7)))
        self.assertEqual(12, cost_of(["a"], ["a"], (), Costs(5, 7)))
        self.assertEqual(120 * 999999, cost_of(["a"] * 60, ["a"] * 60, (), Costs(999999, 999999)))
        self.assertEqual(3 + 3 + 20, cost_of(
            costs=Costs(3, 4, {"b": (10, 20)}), diff=((2, 2),), new=["b", "a"], old=["a", "a", "a"]
        ))

    def test_each_short_diff_by_a_search(self):
        going, coming = {"a": 2, "b": 5}, {"a": 3, "b": 7}
        costs = Costs(1, 1, {"a": (2, 3), "b": (5, 7)})
        for old in texts_up_to(3, "ab"):
            for new in texts_up_to(3, "ab"):
                for diff in all_diffs(old, new):
                    self.assertIs(True, is_diff(old, new, diff))
                    self.assertEqual(price(old, new, diff, going, coming), cost_of(old, new, diff, costs))
                    self.check_blocks(old, new, diff)

    def check_blocks(self, old, new, diff):
        blocks = blocks_of(old, new, diff)
        gone = [i for a, b, _, _ in blocks for i in range(a + 1, b + 1)]
        come = [j for _, _, c, d in blocks for j in range(c + 1, d + 1)]
        self.assertEqual((gone, come), (gone_lines(old, new, diff), come_lines(old, new, diff)))
        self.assertEqual(sorted(blocks), blocks)
        self.assertEqual(len(set(blocks)), len(blocks))
        kept = kept_lines(old, new, diff)
        self.assertEqual(list(range(1, len(old) + 1)), sorted(gone + kept))
        partners = [partner_of(old, new, diff, i) for i in range(1, len(old) + 1)]
        self.assertEqual(diff, tuple((i, j) for i, j in enumerate(partners, 1) if j is not None))
        for a, b, c, d in blocks:
            self.assertIn((a, c), ((0, 0), *diff))
            self.assertIn((b + 1, d + 1), (*diff, (len(old) + 1, len(new) + 1)))

    def test_lists_are_new(self):
        for call in (blocks_of, gone_lines, come_lines, kept_lines):
            first = call(OLD, NEW, DIFF)
            told = list(first)
            first.clear()
            self.assertEqual(told, call(OLD, NEW, DIFF))

    def test_arguments_are_not_changed(self):
        old, new = list(OLD), list(NEW)
        for call in (blocks_of, gone_lines, come_lines, kept_lines, turned_about, turned_over, is_diff):
            call(old, new, DIFF)
        cost_of(old, new, DIFF, Costs())
        joined_diffs(old, new, old, DIFF, ((1, 1), (2, 3)))
        self.assertEqual((OLD, NEW), (old, new))


class DiffsFromDiffs(DiffCase):
    def test_turned_about(self):
        self.assertEqual(((1, 1), (2, 3)), turned_about(OLD, NEW, DIFF))
        self.assertEqual((), turned_about(OLD, NEW, ()))
        self.assertEqual(((1, 1), (2, 3)), turned_about(diff=DIFF, new=NEW, old=OLD))

    def test_turned_over(self):
        self.assertEqual(((2, 2), (4, 3)), turned_over(OLD, NEW, DIFF))
        self.assertEqual((), turned_over(OLD, NEW, ()))
        self.assertEqual(((2, 2), (4, 3)), turned_over(diff=DIFF, new=NEW, old=OLD))

    def test_both_twice_for_each_short_diff(self):
        for old in texts_up_to(3, "ab"):
            for new in texts_up_to(3, "ab"):
                for diff in all_diffs(old, new):
                    about, over = turned_about(old, new, diff), turned_over(old, new, diff)
                    self.assertEqual(tuple((j, i) for i, j in diff), about)
                    self.assertIs(True, is_diff(new, old, about))
                    self.assertEqual(diff, turned_about(new, old, about))
                    self.assertIs(True, is_diff(old[::-1], new[::-1], over))
                    self.assertEqual(
                        sorted((len(old) + 1 - i, len(new) + 1 - j) for i, j in diff), list(over)
                    )
                    self.assertEqual(diff, turned_over(old[::-1], new[::-1], over))

    def test_joined(self):
        self.assertEqual(((1, 2),), joined_diffs(
            ["a", "b"], ["a", "b", "c"], ["c", "a"], ((1, 1), (2, 2)), ((1, 2),)
        ))
        self.assertEqual((), joined_diffs(["a"], [], ["a"], (), ()))
        self.assertEqual(((2, 3),), joined_diffs(
            second=((1, 1), (2, 3)), first=((2, 2),), new=["c", "b", "a"], middle=["c", "a"], old=["b", "a"]
        ))

    def test_joined_with_the_same_text(self):
        same_old = tuple((k, k) for k in range(1, 5))
        same_new = tuple((k, k) for k in range(1, 4))
        self.assertEqual(DIFF, joined_diffs(OLD, OLD, NEW, same_old, DIFF))
        self.assertEqual(DIFF, joined_diffs(OLD, NEW, NEW, DIFF, same_new))

    def test_joined_for_short_diffs(self):
        middle = ["a", "b", "a"]
        for old in texts_up_to(2, "ab"):
            for new in texts_up_to(2, "ab"):
                for first in all_diffs(old, middle):
                    for second in all_diffs(middle, new):
                        joined = joined_diffs(old, middle, new, first, second)
                        told = [(i, k) for i, j in first for n, k in second if j == n]
                        self.assertEqual(tuple(sorted(told)), joined)
                        self.assertIs(True, is_diff(old, new, joined))

    def test_values_are_tuples_of_tuples(self):
        for value in (
            turned_about(OLD, NEW, DIFF), turned_over(OLD, NEW, DIFF), joined_diffs(OLD, OLD, NEW, ((1, 1),), DIFF)
        ):
            self.assertIs(tuple, type(value))
            self.assertEqual({tuple}, {type(pair) for pair in value})


class WhatIsRefused(DiffCase):
    CALLS = (is_diff, blocks_of, gone_lines, come_lines, kept_lines, turned_about, turned_over)

    def test_texts_first(self):
        for call in self.CALLS:
            self.refused(InvalidText, "o", call, "o", "n", 5)
            self.refused(InvalidText, "n", call, OLD, "n", 5)
            for value in odd_values() + [["a"] * 61]:
                self.refused(InvalidText, value, call, value, NEW, DIFF)
                self.refused(InvalidText, value, call, OLD, value, DIFF)
        self.refused(InvalidText, "o", cost_of, "o", "n", 5, 5)
        self.refused(InvalidText, "n", cost_of, OLD, "n", 5, 5)
        self.refused(InvalidText, "o", partner_of, "o", "n", 5, 0)
        self.refused(InvalidText, "n", partner_of, OLD, "n", 5, 0)

    def test_then_diffs(self):
        for value in NO_DIFFS + odd_values():
            for call in self.CALLS[1:]:
                self.refused(InvalidDiff, value, call, OLD, NEW, value)
            self.refused(InvalidDiff, value, cost_of, OLD, NEW, value, 5)
            self.refused(InvalidDiff, value, partner_of, OLD, NEW, value, 0)

    def test_then_costs(self):
        for value in odd_values() + [Costs, (1, 1), None]:
            raised = self.refused(InvalidCosts, value, cost_of, OLD, NEW, DIFF, value)
            self.assertEqual("costs", raised.problem)

    def test_then_lines(self):
        for number in (0, 5, -1, True, False, None, "1", (1,), [1], b"1"):
            self.refused(InvalidLine, number, partner_of, OLD, NEW, DIFF, number)
        self.refused(InvalidLine, 4, partner_of, ["a"] * 3, ["a"] * 4, (), 4)
        for value in odd_values():
            if not (type(value) is int and value == 1):
                self.refused(InvalidLine, value, partner_of, OLD, NEW, DIFF, value)
        self.refused(InvalidLine, 1, partner_of, [], NEW, (), 1)

    def test_all_texts_then_both_diffs_of_joined(self):
        self.refused(InvalidText, "o", joined_diffs, "o", "m", "n", 5, 6)
        self.refused(InvalidText, "m", joined_diffs, OLD, "m", "n", 5, 6)
        self.refused(InvalidText, "n", joined_diffs, OLD, OLD, "n", 5, 6)
        self.refused(InvalidDiff, 5, joined_diffs, OLD, OLD, NEW, 5, 6)
        self.refused(InvalidDiff, 6, joined_diffs, OLD, OLD, NEW, ((1, 1),), 6)
        wrong = ((4, 3),)
        self.refused(InvalidDiff, wrong, joined_diffs, OLD, OLD, NEW, wrong, DIFF)
        self.refused(InvalidDiff, wrong, joined_diffs, OLD, OLD, NEW, ((4, 4),), wrong)
        for value in odd_values():
            self.refused(InvalidText, value, joined_diffs, OLD, value, NEW, 5, 6)
            self.refused(InvalidDiff, value, joined_diffs, OLD, OLD, NEW, (), value)
            self.refused(InvalidDiff, value, joined_diffs, OLD, OLD, NEW, value, DIFF)


if __name__ == "__main__":
    unittest.main()
