import unittest
from math import comb

from alldiffs.costs import Costs
from alldiffs.errors import (
    InvalidChoice, InvalidCosts, InvalidPick, InvalidText, InvalidVersion, NotSure, Settled, TooLarge,
)
from alldiffs.mergecores import Merge
from alldiffs.readings import Readings
from alldiffs.rows import merged, swapped
from tests.merges import NO_PICKS, OWN, PlainMerge, settled_merges, some_merges
from tests.search import Grudge, Liar, odd_values, texts_up_to
from tests.test_choices import costs_of

ABA = (["a", "b", "a"], ["a"], ["a", "c", "b", "a"])
NO_MERGE_CHOICES = [
    (0, 0), (3, 0), (1, 1), (2, 0), (1, -1), (True, 0), (1, False), (1, True), (1,), (1, 0, 0), [1, 0], ("1", 0),
    (1, "0"), (1, None), (None, 0), 0, 1, None, "10", (Liar(), 0), (1, Liar()), (Grudge(), Grudge()), (1, 10 ** 25), ((1, 0),),
]
# Two parts, each with a line of its own behind it: the picks of so many parts cannot be listed.
PARTS = (["x", "x", "-", "y", "y", "="], ["x", "-", "y", "="], ["x", "-", "y", "y", "="])


def long_merge():
    """A merge of 1,000 places that has more picks than can be listed."""
    return Merge(["a"] * 19, ["a"] * 9, ["a"] * 4, Costs())


class MergeCase(unittest.TestCase):
    def refused(self, error, value, call, *args, **named):
        with self.assertRaises(error) as caught:
            call(*args, **named)
        self.assertIs(value, next(iter(vars(caught.exception).values())))

    def not_sure(self, core, call, *args):
        with self.assertRaises(NotSure) as caught:
            call(*args)
        self.assertEqual(core, caught.exception.matters)


class Merges(MergeCase):
    def setUp(self):
        self.merge = Merge(*ABA, Costs())

    def test_the_example_of_the_document(self):
        merge = self.merge
        clash = ("clash", 0, 2, (), ("a", "c", "b"))
        self.assertEqual((((1, 0),), False, 2), (merge.core(), merge.is_sure(), merge.count()))
        self.assertEqual([("a", "c"), (clash, "a")], [merge.row_of(((0,), ())), merge.row_of(((), ()))])
        self.assertEqual((((), ()), ((0,), ())), merge.parted((1, 0)))
        self.not_sure(((1, 0),), merge.row)
        left = merge.settled((1, 0), True)
        self.assertEqual(((), True, ("a", "c"), 1), (left.core(), left.is_sure(), left.row(), left.count()))
        other = merge.settled(choice=(1, 0), made=False)
        self.assertEqual(((), (clash, "a")), (other.core(), other.row()))

    def test_the_example_of_the_interface(self):
        twice = Merge(["a"], ["a", "a"], ["a", "a"], Costs())
        self.assertIs(False, twice.is_sure())
        self.assertEqual(((1, 0), (2, 0)), twice.core())

    def test_what_it_is_made_of(self):
        costs = Costs(2, 3, {"a": (1, 4)})
        merge = Merge(costs=costs, two=ABA[2], one=tuple(ABA[1]), base=ABA[0])
        self.assertEqual((*ABA, costs), (merge.base, merge.version(1), merge.version(number=2), merge.costs))
        self.assertEqual(Readings(ABA[0], ABA[1], costs), merge.readings(1))
        self.assertEqual(Readings(ABA[0], ABA[2], costs), merge.readings(number=2))
        self.assertEqual(f"Merge(['a', 'b', 'a'], ['a'], ['a', 'c', 'b', 'a'], {costs!r})", repr(merge))
        for value in [0, 3, True, False, "1", (1,), None] + odd_values():
            if value.__class__ is not int or value != 1:
                self.refused(InvalidVersion, value, merge.version, value)
                self.refused(InvalidVersion, value, merge.readings, value)

    def test_rows_are_merged_rows(self):
        for plain in some_merges():
            merge = plain.merge()
            self.assertEqual(len(plain.picks), merge.count())
            for pick in plain.picks:
                self.assertEqual(plain.rows[pick], merge.row_of(pick))
                self.assertEqual(merged(*plain.texts, *plain.diffs[pick]), merge.row_of(pick=pick))

    def test_cores_by_all_picks(self):
        found = set()
        for plain in settled_merges():
            found.add(self.check_core(plain) == ())
        self.assertEqual({True, False}, found)

    def test_cores_of_few_letters(self):
        texts = texts_up_to(3, "ab") + [list("aabb"), list("abba"), list("baab"), list("aaba")]
        for base in texts[::2]:
            for at, one in enumerate(texts[1::3]):
                for two in texts[at % 4::4]:
                    self.check_core(PlainMerge(base, one, two))

    def test_cores_where_lines_stand_apart(self):
        for base, one, two in (
            ("xaya", "xa", "yaxa"), ("aabaa", "aabaaa", "abaa"), ("aabcaa", "abca", "aca"), ("acacb", "acb", "cacb"),
            ("aaaab", "aacb", "caab"), ("cabcab", "cab", "cacb"), ("abcacb", "acb", "bcab"), ("ababab", "abab", "bab"),
        ):
            for going, coming in ((None, None), OWN):
                self.check_core(PlainMerge(base, one, two, going, coming))
                self.check_core(PlainMerge(base, two, one, going, coming))
                self.check_core(PlainMerge(base, one, one, going, coming))

    def check_core(self, plain):
        merge, core = plain.merge(), plain.core()
        self.assertEqual(core, merge.core(), plain.texts)
        self.assertEqual(core, merge.core())
        rows = set(plain.rows.values())
        self.assertIs(len(rows) == 1, merge.is_sure())
        if core:
            self.not_sure(core, merge.row)
        else:
            self.assertEqual([merge.row()], list(rows))
        for choice in plain.choices():
            found = plain.parted(choice)
            told = merge.parted(choice)
            self.assertTrue(told in found if found else told is None)
            self.assertIs(told is not None, merge.is_parted(choice, told))
        return core

    def test_is_parted_by_all_picks(self):
        for plain in list(settled_merges())[::3]:
            merge = plain.merge()
            for choice in plain.choices():
                found = plain.parted(choice)
                for pick in plain.picks[:12]:
                    for other in plain.picks[:12]:
                        self.assertIs((pick, other) in found, merge.is_parted(choice, (pick, other)))

    def test_is_parted_for_any_value(self):
        merge = self.merge
        good = (((), ()), ((0,), ()))
        self.assertIs(True, merge.is_parted((1, 0), good))
        self.assertIs(True, merge.is_parted(value=good, choice=(1, 0)))
        for value in odd_values() + [
            good[::-1], list(good), (good[0],), (good[0], good[0]), (*good, good[0]), (list(good[0]), good[1]),
            (good[0], ((False,), ())), (good[0], ([0], ())), (good[0], ((0,), [])), (good[0], ((0,), (0,))), (((), ()), ()),
            (Liar(), good[1]), (good[0], Liar()), (good[0], (Liar(), ())), (Grudge(), good[1]), good[0], good[1],
        ]:
            self.assertIs(False, merge.is_parted((1, 0), value))
        left = merge.settled((1, 0), True)
        self.assertIs(False, left.is_parted((1, 0), good))
        self.assertIsNone(left.parted((1, 0)))

    def test_choices_refused(self):
        merge = self.merge
        for value in NO_MERGE_CHOICES + odd_values():
            self.refused(InvalidChoice, value, merge.parted, value)
            self.refused(InvalidChoice, value, merge.is_parted, value, None)
            self.refused(InvalidChoice, value, merge.settled, value, True)
            self.refused(InvalidChoice, value, merge.settled, value, made=False)
        self.assertIsNotNone(merge.parted(choice=(1, 0)))

    def test_picks_refused(self):
        for value in NO_PICKS[1:] + odd_values():
            self.refused(InvalidPick, value, self.merge.row_of, value)
        left = self.merge.settled((1, 0), True)
        self.refused(InvalidPick, NO_PICKS[0], left.row_of, NO_PICKS[0])

    def test_arguments_refused_in_their_order(self):
        good = (*ABA, Costs())
        for at, error in enumerate((InvalidText, InvalidText, InvalidText, InvalidCosts)):
            wrong = [["a\n"], ["a"] * 61, "abc", [None]] if at < 3 else []
            for value in wrong + odd_values():
                with self.assertRaises(error) as caught:
                    Merge(*good[:at], value, *["no", None, 5][at:])
                self.assertIs(value, caught.exception.value)
        with self.assertRaises(InvalidCosts) as caught:
            Merge(["a"] * 60, ["a"] * 60, ["a"] * 60, None)
        self.assertEqual("costs", caught.exception.problem)

    def test_too_large(self):
        for many in ((9, 9, 10), (9, 10, 9), (10, 9, 9), (60, 60, 60), (60, 16, 0), (0, 0, 60, 60), (1, 1, 250)):
            texts = [[str(k) for k in range(n)][:60] for n in many[-3:]]
            if (len(texts[0]) + 1) * (len(texts[1]) + 1) * (len(texts[2]) + 1) <= 1000:
                continue
            with self.assertRaises(TooLarge) as caught:
                Merge(*texts, Costs())
            self.assertEqual(("merge", 1000), (caught.exception.kind, caught.exception.limit))
        for many in ((9, 9, 9), (0, 24, 39), (39, 24, 0), (4, 3, 49), (1, 9, 49), (60, 15, 0)):
            texts = [[str(k) for k in range(n)] for n in many]
            self.assertEqual((1, ()), (Merge(*texts, Costs()).count(), Merge(*texts, Costs()).core()))

    def test_lines_that_stand_once_have_one_pick(self):
        base = ["k", "l", "m", "n"]
        merge = Merge(base, ["k", "x", "m", "n"], ["k", "l", "m", "y", "n"], Costs())
        self.assertEqual((1, (), True), (merge.count(), merge.core(), merge.is_sure()))
        self.assertEqual(("k", "x", "m", "y", "n"), merge.row())

    def test_versions_that_are_the_base(self):
        for base, one in ((["a", "b", "a"], ["a"]), (["a"], ["a", "a"]), ([], ["x"]), (["x"], [])):
            merge = Merge(base, one, base, Costs())
            self.assertEqual(((), tuple(one)), (merge.core(), merge.row()))
            self.assertEqual(((), tuple(one)), (Merge(base, base, one, Costs()).core(), merge.swapped().row()))
        self.assertEqual((), Merge([], [], [], Costs()).row())


class LargeMerges(MergeCase):
    def test_as_many_places_as_may_be(self):
        merge = long_merge()
        self.assertEqual(comb(19, 9) * comb(19, 4), merge.count())
        core = merge.core()
        self.assertEqual(tuple((v, k) for v, many in ((1, 90), (2, 60)) for k in range(many)), core)
        self.assertIs(False, merge.is_sure())
        for choice in core[::9]:
            without, having = merge.parted(choice)
            self.assertIs(True, merge.is_parted(choice, (without, having)))
            self.assertNotEqual(merge.row_of(without), merge.row_of(having))

    def test_a_sure_one_whose_picks_cannot_be_listed(self):
        merge = Merge(["a"] * 39, ["a"] * 11, ["z"], Costs())
        self.assertEqual((1676056044, (), True), (merge.count(), merge.core(), merge.is_sure()))
        self.assertEqual((("clash", 0, 39, ("a",) * 11, ("z",)),), merge.row())
        self.assertIsNone(merge.parted((1, 7)))

    def test_merges_of_parts(self):
        # Lines of their own stand between the parts, so the core of the whole is put together of theirs.
        for parts in (
            [("aa", "a", "aaa"), ("xyx", "x", "xzyx")], [("aba", "a", "acba"), ("xx", "xyx", "x")],
            [("aa", "a", ""), ("xyxy", "xy", "yx")], [("a", "aaa", "aa"), ("xxx", "x", "xyx")],
        ):
            self.check_parts(parts)

    def check_parts(self, parts):
        base, one, two = [], [], []
        for mark, part in zip("-=", parts):
            base, one, two = [[*text, *more, mark] for text, more in zip((base, one, two), part)]
        merge = Merge(base, one, two, Costs())
        plains = [PlainMerge(*part) for part in parts]
        count = 1
        for plain in plains:
            count *= len(plain.picks)
        self.assertEqual(count, merge.count())
        core, ahead = [], [0, 0]
        for plain in plains:
            core += [(number, k + ahead[number - 1]) for number, k in plain.core()]
            ahead = [many + len(known.choices) for many, known in zip(ahead, plain.versions)]
        self.assertEqual(tuple(sorted(core)), merge.core())
        for choice in merge.core():
            self.assertIs(True, merge.is_parted(choice, merge.parted(choice)))

    def test_a_part_beside_one_that_cannot_be_listed(self):
        base, one, two = ["p", "q", "p", *["a"] * 27], ["p", *["a"] * 4], ["p", "c", "q", "p"]
        merge = Merge(base, one, two, Costs())
        self.assertEqual((35100, ((1, 0),)), (merge.count(), merge.core()))
        left = [merge.settled((1, 0), made).row() for made in (True, False)]
        self.assertEqual([("p", "c"), (("clash", 0, 2, (), ("p", "c", "q")), "p")], left)


class SettledMerges(MergeCase):
    def test_what_is_left_by_all_picks(self):
        for plain in settled_merges():
            merge = plain.merge()
            told = {(a, b) for a in merge.readings(1).in_order() for b in merge.readings(2).in_order()}
            self.assertEqual(set(plain.picks), told)
            held = {}
            for number, k in plain.choices():
                having = {k in pick[number - 1] for pick in plain.picks}
                if len(having) == 1:
                    held[(number, k)] = having.pop()
            self.assertEqual((held, list(held)), (merge.held(), list(merge.held())))
            whole = PlainMerge(*plain.texts).picks if plain.costs == Costs() else []
            for pick in whole:
                if pick not in plain.rows:
                    self.refused(InvalidPick, pick, merge.row_of, pick)

    def test_settled_alike_and_otherwise(self):
        for plain in list(settled_merges())[::2]:
            merge = plain.merge()
            for choice, made in merge.held().items():
                self.assertEqual(merge, merge.settled(choice, made))
                with self.assertRaises(Settled) as caught:
                    merge.settled(choice, not made)
                self.assertEqual(choice, caught.exception.choice)

    def test_the_merge_that_was_asked_stays(self):
        merge = Merge(*PARTS, Costs())
        core = merge.core()
        choice = core[0]
        told = (merge.count(), core, merge.held(), merge.parted(choice), repr(merge))
        left = merge.settled(choice, True)
        self.assertNotEqual(left, merge)
        self.assertEqual(told, (merge.count(), merge.core(), merge.held(), merge.parted(choice), repr(merge)))
        left.held().clear()
        self.assertEqual({choice: True}, left.held())
        self.assertEqual(repr(merge), repr(left))

    def test_settled_in_any_sequence(self):
        for plain in list(some_merges())[::2]:
            merge = plain.merge()
            for one in plain.choices()[:3]:
                for other in plain.choices()[-3:]:
                    for made in ((True, True), (False, True), (False, False)):
                        self.both_ways(merge, (one, made[0]), (other, made[1]))

    def both_ways(self, merge, *pairs):
        left = []
        for row in (pairs, pairs[::-1]):
            told = merge
            try:
                for choice, made in row:
                    told = told.settled(choice, made)
            except Settled:
                told = None
            left.append(told)
        self.assertEqual(*left)

    def test_cores_shrink_until_the_merge_is_sure(self):
        for plain in some_merges():
            merge = plain.merge()
            first = merge.core()
            for turn in range(3):
                left, asked, core = merge, 0, first
                while core:
                    choice = core[turn * asked % len(core)]
                    left, asked = left.settled(choice, (turn + asked) % 2 == 0), asked + 1
                    self.assertLess(set(left.core()), set(core))
                    core = left.core()
                self.assertLessEqual(asked, len(first))
                self.assertIn(left.row(), plain.rows.values())

    def test_asked_through_where_picks_cannot_be_listed(self):
        merge = Merge(["a"] * 19, ["a"] * 9, ["b", "a", "a"], Costs())
        first = core = merge.core()
        asked = 0
        while core and asked <= len(first):
            merge, asked = merge.settled(core[asked * 7 % len(core)], asked % 3 == 0), asked + 1
            self.assertLess(set(merge.core()), set(core))
            core = merge.core()
        self.assertEqual((), core)
        self.assertGreater(merge.count(), 0)
        merge.row()

    def test_swapped(self):
        for plain in settled_merges():
            merge, turned = plain.merge(), plain.merge().swapped()
            base, one, two = plain.texts
            self.assertEqual((base, two, one), (turned.base, turned.version(1), turned.version(2)))
            self.assertEqual({(3 - v, k): made for (v, k), made in merge.held().items()}, turned.held())
            self.assertEqual(merge, turned.swapped())
            self.assertEqual(tuple(sorted((3 - v, k) for v, k in merge.core())), turned.core())
            for first, second in plain.picks[:20]:
                self.assertEqual(swapped(plain.rows[first, second]), turned.row_of((second, first)))

    def test_equal(self):
        merge = Merge(*ABA, Costs())
        self.assertEqual(merge, Merge(*[tuple(text) for text in ABA], Costs(1, 1)))
        for other in (
            Merge(ABA[0], ABA[2], ABA[1], Costs()), Merge(*ABA, Costs(1, 2)), merge.settled((1, 0), True),
            Merge(ABA[0][:2], *ABA[1:], Costs()), None, 5, "Merge", ABA, Readings(*ABA[:2], Costs()),
        ):
            self.assertIs(False, merge == other)
            self.assertIs(True, merge != other)
        self.assertNotEqual(merge.settled((1, 0), False), merge.settled((1, 0), True))
        self.assertEqual(merge.settled((1, 0), False), Merge(*ABA, Costs()).settled((1, 0), False))


class TheSameMerge(MergeCase):
    def test_with_other_words(self):
        words = {"a": "", "b": "<<<<", "c": "====", "x": "\\", "y": "clash", "z": ">>>>", "d": "|"}
        for plain in some_merges():
            merge = plain.merge()
            costs = {words[line]: told for line, told in plain.costs.some().items()}
            told = Merge(*[[words[line] for line in text] for text in plain.texts], Costs(1, 1, costs))
            self.assertEqual((merge.core(), merge.count()), (told.core(), told.count()))
            for pick in plain.picks[:20]:
                row = tuple(
                    words[token] if isinstance(token, str) else
                    (*token[:3], *[tuple(words[line] for line in lines) for lines in token[3:]])
                    for token in plain.rows[pick]
                )
                self.assertEqual(row, told.row_of(pick))

    def test_with_costs_multiplied(self):
        for plain in some_merges():
            merge = plain.merge()
            some = {line: (7 * going, 7 * coming) for line, (going, coming) in plain.costs.some().items()}
            told = Merge(*plain.texts, Costs(7, 7, some))
            self.assertEqual((merge.core(), merge.count()), (told.core(), told.count()))
            self.assertEqual([merge.row_of(pick) for pick in plain.picks], [told.row_of(pick) for pick in plain.picks])

    def test_in_reverse(self):
        for plain in list(some_merges())[::2]:
            base, one, two = [text[::-1] for text in plain.texts]
            merge, told = plain.merge(), Merge(base, one, two, plain.costs)
            self.assertEqual((merge.count(), len(merge.core())), (told.count(), len(told.core())))
            rows = {turned_over(len(base), row) for row in plain.rows.values()}
            again = {
                told.row_of((a, b)) for a in told.readings(1).in_order() for b in told.readings(2).in_order()
            }
            self.assertEqual(rows, again)

    def test_what_was_passed_is_copied(self):
        texts = [list(text) for text in ABA]
        some = {"a": (1, 2)}
        costs = Costs(1, 1, some)
        merge = Merge(*texts, costs)
        for text in texts:
            text.append("more")
        some["b"] = (5, 5)
        self.assertEqual(list(ABA), [merge.base, merge.version(1), merge.version(2)])
        merge.base.clear()
        merge.version(1).clear()
        self.assertEqual(list(ABA), [merge.base, merge.version(1), merge.version(2)])
        self.assertEqual(Merge(*ABA, costs_of({"a": 1}, {"a": 2})), merge)


def turned_over(many, row):
    """The row of a merge with all texts in reverse."""
    return tuple(
        token if isinstance(token, str) else
        ("clash", many - token[2], many - token[1], token[3][::-1], token[4][::-1]) for token in row[::-1]
    )


if __name__ == "__main__":
    unittest.main()
