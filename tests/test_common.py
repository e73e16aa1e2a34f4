import unittest

from alldiffs.common import common_numbers, common_pick, common_rows, numbers_of
from alldiffs.costs import Costs
from alldiffs.errors import InvalidCount, InvalidPick, TooLarge
from alldiffs.mergecores import Merge
from alldiffs.rows import clashes, swapped
from tests.merges import NO_PICKS, OWN, PlainMerge, order, settled_merges, some_merges
from tests.search import odd_values, texts_up_to
from tests.test_mergecores import ABA, MergeCase, long_merge, turned_over

NO_COUNTS = [0, 51, -1, True, False, None, "5", (5,), [5], b"5", 10 ** 25]


# Merges with just fifty common rows, and with one more.
FIFTY = [list("aaaaaaabbbb"), list("abab"), list("acaaeaagabbbm")]
MORE = [list("baaaaaaaaa"), list("babaa"), list("badaafagaajaka")]


class CommonPicks(MergeCase):
    def test_the_examples(self):
        twice = Merge(["a"], ["a", "a"], ["a", "a"], Costs())
        self.assertEqual([False, (0, 1), [("a", "a")]], [
            twice.is_sure(), common_numbers(twice), common_rows(twice, most=50)
        ])
        merge = Merge(*ABA, Costs())
        self.assertEqual([(0, 3), (1, 3)], [numbers_of(merge, ((0,), ())), numbers_of(pick=((), ()), merge=merge)])
        self.assertEqual(((0, 3), ((0,), ()), [("a", "c")]), (
            common_numbers(merge=merge), common_pick(merge=merge), common_rows(merge=merge)
        ))

    def test_by_all_picks(self):
        many = set()
        for plain in settled_merges():
            many.add(self.check(plain))
        self.assertTrue({1, 2, 3} <= many)

    def test_few_letters(self):
        texts = texts_up_to(3, "ab") + [list("aabb"), list("abab"), list("bbab"), list("abcb")]
        for base in texts[1::2]:
            for at, one in enumerate(texts[::3]):
                for two in texts[at % 5::5]:
                    self.check(PlainMerge(base, one, two))

    def test_rows_with_clashes_among_them(self):
        found = 0
        for texts in (
            ("aaa", "aba", "aca"), ("aaaa", "caac", "aada"), ("aa", "aba", "aca"), ("axax", "xbx", "axcx"), ("aaa", "ab", "ca"),
            ("abab", "cab", "abd"), ("aabb", "acb", "adb"), ("xyxy", "xzy", "wxy"),
        ):
            for costs in ((None, None), OWN):
                plain = PlainMerge(*texts, *costs)
                if self.check(plain) > 1 and common_numbers(plain.merge())[0] > 0:
                    found += 1
        self.assertGreater(found, 1)

    def check(self, plain):
        merge, least = plain.merge(), plain.common_numbers()
        self.assertEqual(least, common_numbers(merge))
        for pick in plain.picks[:30]:
            self.assertEqual(plain.numbers(pick), numbers_of(merge, pick))
        pick = common_pick(merge)
        self.assertIn(pick, plain.rows)
        self.assertEqual(least, plain.numbers(pick))
        rows = plain.common_rows()
        if len(rows) <= 50:
            self.assertEqual(rows, common_rows(merge))
            self.assertEqual(rows, common_rows(merge, most=len(rows)))
        for most in range(1, min(len(rows), 51)):
            with self.assertRaises(TooLarge) as caught:
                common_rows(merge, most=most)
            self.assertEqual(("rows", most), (caught.exception.kind, caught.exception.limit))
        return len(rows)

    def test_a_line_is_less_than_a_clash(self):
        # One puts x behind or ahead of an a, two replaces the last one: a clash, or the lines side by side.
        for plain in some_merges():
            rows = common_rows(plain.merge())
            self.assertEqual(sorted(rows, key=order), rows)
        merge = Merge(["a", "a"], ["b", "a"], ["a", "c", "a"], Costs())
        rows = common_rows(merge)
        self.assertEqual(sorted(rows, key=order), rows)

    def test_just_so_many_rows_as_may_be(self):
        merge = Merge(*FIFTY, Costs())
        rows = common_rows(merge)
        self.assertEqual((50, 50), (len(rows), len(set(rows))))
        self.assertEqual((sorted(rows, key=order), rows), (rows, common_rows(merge, most=50)))
        numbers = common_numbers(merge)
        self.assertEqual({numbers[0]}, {len(clashes(row)) for row in rows})
        with self.assertRaises(TooLarge) as caught:
            common_rows(merge, most=49)
        self.assertEqual(("rows", 49), (caught.exception.kind, caught.exception.limit))

    def test_more_rows_than_may_be_told(self):
        merge = Merge(*MORE, Costs())
        for named in ({}, {"most": 50}):
            with self.assertRaises(TooLarge) as caught:
                common_rows(merge, **named)
            self.assertEqual(("rows", 50), (caught.exception.kind, caught.exception.limit))
        with self.assertRaises(TooLarge) as caught:
            common_rows(merge, most=7)
        self.assertEqual(("rows", 7), (caught.exception.kind, caught.exception.limit))
        # It has just one row more, as is seen where the choice (1, 0) is settled.
        left = [common_rows(merge.settled((1, 0), made)) for made in (True, False)]
        self.assertEqual((10, 41, 51), (*map(len, left), len({*left[0], *left[1]})))

    def test_most_refused(self):
        merge, large = Merge(*ABA, Costs()), Merge(*MORE, Costs())
        for value in NO_COUNTS + [value for value in odd_values() if value.__class__ is not int or value != 1]:
            self.refused(InvalidCount, value, common_rows, merge, most=value)
            self.refused(InvalidCount, value, common_rows, large, most=value)
        self.assertRaises(TypeError, common_rows, merge, 5)
        self.assertEqual([common_rows(merge)] * 2, [common_rows(merge, most=1), common_rows(merge, most=50)])

    def test_picks_refused(self):
        merge = Merge(*ABA, Costs())
        for value in NO_PICKS[1:] + odd_values():
            self.refused(InvalidPick, value, numbers_of, merge, value)
        left = merge.settled((1, 0), True)
        value = ((), ())
        self.refused(InvalidPick, value, numbers_of, left, value)

    def test_settled_choices(self):
        merge = Merge(*ABA, Costs())
        left = merge.settled((1, 0), False)
        clash = ("clash", 0, 2, (), ("a", "c", "b"))
        self.assertEqual(((1, 3), ((), ()), [(clash, "a")]), (common_numbers(left), common_pick(left), common_rows(left)))

    def test_lists_are_new(self):
        merge = Merge(*ABA, Costs())
        common_rows(merge).clear()
        self.assertEqual([("a", "c")], common_rows(merge))

    def test_a_large_one(self):
        merge = long_merge()
        self.assertEqual(((0, 15), [("a",) * 4]), (common_numbers(merge), common_rows(merge)))
        self.assertEqual((0, 15), numbers_of(merge, common_pick(merge)))


class Twice(MergeCase):
    def test_a_text_merged_with_itself(self):
        texts = texts_up_to(3, "ab") + [list("abab"), list("baab"), list("aabaa"), list("cabca"), list("aaaaa")]
        for base in texts[::2]:
            for text in texts[1::3]:
                for costs in (Costs(), Costs(3, 1), Costs(1, 2, {"a": (4, 1)})):
                    self.check(base, text, costs)

    def check(self, base, text, costs):
        merge = Merge(base, text, text, costs)
        readings = merge.readings(1)
        cost = numbers_of(merge, (readings.first(), readings.first()))[1]
        self.assertEqual([tuple(text)], common_rows(merge))
        self.assertEqual(((0, cost), tuple(text)), (common_numbers(merge), merge.row_of(common_pick(merge))))

    def test_the_base_as_a_version(self):
        for plain in list(some_merges())[::2]:
            base, one, _ = plain.texts
            merge = Merge(base, one, base, plain.costs)
            self.assertEqual([tuple(one)], common_rows(merge))
            self.assertEqual([tuple(one)], common_rows(merge.swapped()))

    def test_large_ones(self):
        for base, text in ((["a"] * 9, ["a"] * 5), (["a", "b"] * 4, ["b", "a", "a"] * 3), (["a"] * 3, ["a"] * 14)):
            self.assertEqual([tuple(text)], common_rows(Merge(base, text, text, Costs())))


class TheSameMerge(MergeCase):
    def test_with_versions_exchanged(self):
        for plain in settled_merges():
            merge = plain.merge()
            turned = merge.swapped()
            self.assertEqual(common_numbers(merge), common_numbers(turned))
            rows = [swapped(row) for row in common_rows(merge)]
            self.assertEqual(sorted(rows, key=order), common_rows(turned))

    def test_with_other_words(self):
        # The words sort as the letters do.
        words = {"a": "", "b": "<<<<", "c": "====", "x": ">>>>", "y": "\\", "z": "clash", "d": "<<<<<"}
        for plain in some_merges():
            some = {words[line]: told for line, told in plain.costs.some().items()}
            merge = Merge(*[[words[line] for line in text] for text in plain.texts], Costs(1, 1, some))
            self.assertEqual(plain.common_numbers(), common_numbers(merge))
            rows = [tuple(
                words[token] if isinstance(token, str) else
                (*token[:3], *[tuple(words[line] for line in lines) for lines in token[3:]]) for token in row
            ) for row in plain.common_rows()]
            self.assertEqual(sorted(rows, key=order), common_rows(merge))

    def test_with_costs_multiplied(self):
        for plain in some_merges():
            some = {line: (9 * going, 9 * coming) for line, (going, coming) in plain.costs.some().items()}
            merge = Merge(*plain.texts, Costs(9, 9, some))
            clashes, cost = plain.common_numbers()
            self.assertEqual(((clashes, 9 * cost), plain.common_rows()), (common_numbers(merge), common_rows(merge)))

    def test_in_reverse(self):
        for plain in some_merges():
            base, one, two = [text[::-1] for text in plain.texts]
            merge = Merge(base, one, two, plain.costs)
            self.assertEqual(plain.common_numbers(), common_numbers(merge))
            rows = [turned_over(len(base), row) for row in plain.common_rows()]
            self.assertEqual(sorted(rows, key=order), common_rows(merge))

    def test_of_two_parts(self):
        for one, other in ((("aa", "a", "aaa"), ("xyx", "x", "xzyx")), (("aba", "a", "acba"), ("xx", "xyx", "xzx"))):
            texts = [[*text, "-", *more] for text, more in zip(one, other)]
            merge, parts = Merge(*texts, Costs()), [PlainMerge(*one), PlainMerge(*other)]
            numbers = [part.common_numbers() for part in parts]
            self.assertEqual(tuple(map(sum, zip(*numbers))), common_numbers(merge))
            behind = len(one[0]) + 1
            rows = [
                (*first, "-", *[
                    token if isinstance(token, str) else ("clash", token[1] + behind, token[2] + behind, *token[3:])
                    for token in second
                ]) for first in parts[0].common_rows() for second in parts[1].common_rows()
            ]
            self.assertEqual(sorted(rows, key=order), common_rows(merge))


if __name__ == "__main__":
    unittest.main()
