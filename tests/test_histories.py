import unittest
from itertools import product

from alldiffs.costs import Costs
from alldiffs.errors import (
    InvalidChoice, InvalidCosts, InvalidLine, InvalidPick, InvalidText, InvalidVersion, Settled, TooLarge,
)
from alldiffs.histories import History
from alldiffs.mergecores import Merge
from alldiffs.readings import Readings
from tests.search import Grudge, Liar, Plain, odd_values
from tests.merges import OWN
from tests.test_choices import costs_of
from tests.test_mergecores import MergeCase

EXAMPLE = [["a", "b", "a"], ["a"], ["c", "a"]]
HISTORIES = [
    ("aba", "a", "ca"), ("", ""), ("", "a"), ("a", ""), ("a", "aa", "a"), ("aa", "a", "aa"), ("ab", "ba"), ("abab", "ab", "ba"),
    ("a", "", "a"), ("aa", "aa", "aa"), ("xyxy", "xy", "yx", "xyx"), ("aba", "aa", "aba"), ("a", "aa", "aaa", "aa"),
    ("aab", "ab", "aba", "a"), ("b", "ab", "bab", "b", "bb"), ("abc", "acb", "bac"), ("aaa", "aa", "a", "aa"), ("ab", "", "ab"),
    ("xaxa", "xa", "axa"), ("aabb", "ab", "abab"),
]
LONG = [list(("abababab", "aabb", "babaabab", "abab")[k % 4] + "a" * (k % 3)) for k in range(12)]
NO_VERSIONS = [-1, 3, True, False, None, "1", (1,), 10 ** 25]


class PlainHistory:
    """All picks of a history of short texts that are left, with the origins of all lines."""

    def __init__(self, texts, going=None, coming=None, settled=()):
        self.texts = [list(text) for text in texts]
        self.changes = [Plain(old, new, going, coming) for old, new in zip(self.texts, self.texts[1:])]
        self.costs = costs_of(going, coming)
        self.settled = settled
        left = [[reading for reading in plain.readings() if self.has_settled(k, reading)]
                for k, plain in enumerate(self.changes, 1)]
        self.picks = list(product(*left))
        self.found = {pick: self.all_origins(pick) for pick in self.picks}

    def has_settled(self, k, reading):
        return all((choice in reading) is made for change, choice, made in self.settled if change == k)

    def history(self):
        history = History(self.texts, self.costs)
        for k, choice, made in self.settled:
            history = history.settled(k, choice, made)
        return history

    def all_origins(self, pick):
        """For each version the origins of its lines."""
        told = [[(0, line) for line in range(1, len(self.texts[0]) + 1)]]
        for k, (plain, reading) in enumerate(zip(self.changes, pick), 1):
            mates = {j: i for i, j in plain.diff_of(reading)}
            lines = range(1, len(self.texts[k]) + 1)
            told.append([told[-1][mates[j] - 1] if j in mates else (k, j) for j in lines])
        return told

    def parted(self, version, line, choice):
        """All tuples of two picks that differ in the choice alone, with unlike origins of the line."""
        k, number = choice
        found = []
        for pick in self.picks:
            if number not in pick[k - 1]:
                other = (*pick[:k - 1], tuple(sorted((*pick[k - 1], number))), *pick[k:])
                if other in self.found and self.found[other][version][line - 1] != self.found[pick][version][line - 1]:
                    found.append((pick, other))
        return found

    def choices(self):
        return [(k, choice) for k, plain in enumerate(self.changes, 1) for choice in range(len(plain.choices))]

    def lines(self):
        return [(version, line) for version, text in enumerate(self.texts) for line in range(1, len(text) + 1)]


def some_histories():
    """PlainHistories of short texts, with nothing settled, and with some choices settled."""
    for at, texts in enumerate(HISTORIES):
        for costs in ((None, None), OWN)[:1 + at % 2]:
            plain = PlainHistory(texts, *costs)
            yield plain
            choices = plain.choices()
            for made in (True, False):
                for told in (choices[:1], choices[1:3], choices[-1:]):
                    left = PlainHistory(texts, *costs, settled=[(*choice, made) for choice in told])
                    if told and left.picks:
                        yield left


class Histories(MergeCase):
    def setUp(self):
        self.history = History(EXAMPLE, Costs())

    def test_the_example(self):
        history = self.history
        self.assertEqual([((1, 0),), [(0, 1), (0, 3)], [(2, 1)]], [
            history.core(2, 2), history.possible(2, 2), history.possible(2, 1)
        ])
        self.assertEqual(("History(3)", 3, 2), (repr(history), len(history), history.count()))
        self.assertEqual([[(0, 3)], [(0, 1)]], [history.origins(pick, 1) for pick in (((), ()), ((0,), ()))])
        self.assertEqual([(2, 1), (0, 1)], history.origins(version=2, pick=((0,), ())))
        self.assertEqual([(1, [(2, 1)]), (2, [(0, 1), (0, 3)])], list(history.blame(2)))

    def test_what_it_is_made_of(self):
        costs = Costs(2, 3)
        for history in (History(EXAMPLE, costs), History(tuple(map(tuple, EXAMPLE)), costs=costs), History.of(*EXAMPLE, costs=costs)):
            self.assertEqual(EXAMPLE, history.texts())
            self.assertEqual([Readings(*EXAMPLE[:2], costs), Readings(*EXAMPLE[1:], costs)], [history.readings(1), history.readings(k=2)])
            self.assertEqual(History(costs=costs, versions=EXAMPLE), history)
        self.assertEqual(12, History.MOST)
        self.assertEqual(12, len(History(LONG, costs)))
        self.assertRaises(TypeError, History.of, *EXAMPLE, costs, costs)

    def test_versions_refused(self):
        for value in [
            [], [["a"]], [["a"]] * 13, (["a"],) * 13, {0: ["a"], 1: ["a"]}, "ab", iter([["a"], ["a"]]), [None] * 13, [None],
        ] + [value for value in odd_values() if value.__class__ not in (list, tuple) or len(value) < 2]:
            self.refused(InvalidVersion, value, History, value, None)
        for value in [["a\n"], ["a"] * 61, "abc", None, 5, {"a": 1}, [None], Liar(), Grudge()]:
            self.refused(InvalidText, value, History, [["a"], value, None], None)
            self.refused(InvalidText, value, History, (value, ["a"]), None)
            self.refused(InvalidText, value, History.of, ["a"], ["b"], value, costs=None)
        self.refused(InvalidVersion, None, History, None, None)
        with self.assertRaises(InvalidVersion) as caught:
            History.of(["a"], costs=Costs())
        self.assertEqual((["a"],), caught.exception.value)
        for value in odd_values():
            with self.assertRaises(InvalidCosts) as caught:
                History(EXAMPLE, value)
            self.assertEqual("costs", caught.exception.problem)
            self.assertIs(value, caught.exception.value)

    def test_by_all_picks(self):
        for plain in some_histories():
            history = plain.history()
            self.assertEqual(len(plain.picks), history.count())
            for pick in plain.picks:
                told = [history.origins(pick, version) for version in range(len(plain.texts))]
                self.assertEqual(plain.found[pick], told)
            for version, line in plain.lines():
                found = {plain.found[pick][version][line - 1] for pick in plain.picks}
                core = tuple(choice for choice in plain.choices() if plain.parted(version, line, choice))
                self.assertEqual(core, history.core(version, line), (plain.texts, version, line))
                self.assertEqual((sorted(found), len(found) == 1), (
                    history.possible(version, line), history.is_sure(version, line)
                ))
                for choice in plain.choices():
                    if choice in core:
                        self.assertIn(history.parted(version, line, choice), plain.parted(version, line, choice))
                    else:
                        self.refused(InvalidChoice, choice, history.parted, version, line, choice)
            for version, text in enumerate(plain.texts):
                told = [(line, history.possible(version, line)) for line in range(1, len(text) + 1)]
                self.assertEqual(told, list(history.blame(version)))

    def test_no_two_lines_have_the_same_origin(self):
        for plain in some_histories():
            for origins in plain.found.values():
                for told in origins:
                    self.assertEqual(len(told), len(set(told)))

    def test_asked_through_where_picks_cannot_be_listed(self):
        history = History(LONG, Costs())
        self.assertGreater(history.count(), 10 ** 7)
        for line in (1, 3, len(LONG[-1])):
            left, core, asked = history, history.core(11, line), 0
            first = len(core)
            possible = set(history.possible(11, line))
            while core:
                choice = core[asked * 5 % len(core)]
                without, having = left.parted(11, line, choice)
                self.assertNotEqual(left.origins(without, 11)[line - 1], left.origins(having, 11)[line - 1])
                left, asked = left.settled(*choice, asked % 2 == 0), asked + 1
                self.assertLess(set(left.core(11, line)), set(core))
                self.assertLessEqual(set(left.possible(11, line)), possible)
                core, possible = left.core(11, line), set(left.possible(11, line))
            self.assertLessEqual(asked, first)
            self.assertEqual((True, 1), (left.is_sure(11, line), len(possible)))
            pick = tuple(left.readings(k).first() for k in range(1, 12))
            self.assertEqual([left.origins(pick, 11)[line - 1]], left.possible(11, line))

    def test_a_long_history_by_some_of_its_picks(self):
        history = History(LONG, Costs())
        for turn in range(40):
            pick = tuple(
                history.readings(k).nth(turn * turn * k % history.readings(k).count()) for k in range(1, 12)
            )
            for version in (4, 11):
                for line, origin in enumerate(history.origins(pick, version), 1):
                    self.assertIn(origin, history.possible(version, line))

    def test_long_texts(self):
        texts = [["a"] * 60, ["a"] * 30, ["a"] * 60]
        history = History(texts, Costs())
        # Of the first version all lines from 1 to 31 may be the first one of the second.
        self.assertEqual([(0, line) for line in range(1, 32)], history.possible(1, 1))
        self.assertEqual(30, len(history.core(1, 1)))
        self.assertEqual((2, 1), history.possible(2, 1)[-1])
        self.assertEqual(32, len(history.possible(2, 1)))

    def test_settled(self):
        history = History([["a", "b", "a"], ["a"], ["a", "b", "a"], ["a"]], Costs())
        left = history.settled(1, 0, True)
        self.assertEqual([{0: True}, {}, {}], [left.readings(k).held() for k in (1, 2, 3)])
        self.assertEqual([{}, {}, {}], [history.readings(k).held() for k in (1, 2, 3)])
        self.assertEqual(4 * left.count(), 2 * history.count())
        other = history.settled(made=False, choice=0, k=3)
        self.assertEqual([{}, {}, {0: False}], [other.readings(k).held() for k in (1, 2, 3)])
        self.assertEqual(left.settled(3, 0, False), other.settled(1, 0, True))
        self.assertNotEqual(left, history)
        self.assertNotEqual(left, other)
        self.assertEqual(left, left.settled(1, 0, True))
        self.assertEqual("History(4)", repr(left))
        self.assertEqual(history.texts(), left.texts())
        with self.assertRaises(Settled) as caught:
            left.settled(1, 0, False)
        self.assertEqual(0, caught.exception.choice)
        self.assertEqual([(0, 1)], left.possible(1, 1))
        for value in [2, -1, True, None, "0", (1, 0)] + odd_values():
            if value.__class__ is int and value == 0:
                continue
            self.refused(InvalidChoice, value, history.settled, 1, value, True)
        for value in [0, 4, True, "1", None, (1,)] + odd_values():
            if value.__class__ is int and value == 1:
                continue
            self.refused(InvalidVersion, value, history.settled, value, "no", True)
            self.refused(InvalidVersion, value, history.readings, value)

    def test_arguments_refused(self):
        history = self.history
        for value in NO_VERSIONS + [value for value in odd_values() if value.__class__ is not int]:
            for call in (history.core, history.is_sure, history.possible):
                self.refused(InvalidVersion, value, call, value, None)
            self.refused(InvalidVersion, value, history.parted, value, None, None)
            self.refused(InvalidVersion, value, history.origins, ((), ()), value)
            self.refused(InvalidVersion, value, lambda told: list(history.blame(told)), value)
        for value in [0, 3, True, False, None, "1", (1,)] + [value for value in odd_values() if value.__class__ is not int]:
            for call in (history.core, history.is_sure, history.possible):
                self.refused(InvalidLine, value, call, 2, value)
            self.refused(InvalidLine, value, history.parted, 2, value, None)
        for value in [
            (2, 0), (1, 1), (1, -1), (0, 0), (True, 0), (1, False), [1, 0], (1,), (1, 0, 0), None, 0, (Liar(), 0), (1, Liar()),
            (Grudge(), 0), ("1", 0),
        ] + odd_values():
            self.refused(InvalidChoice, value, history.parted, 2, 2, value)
        self.refused(InvalidChoice, EXAMPLE, history.parted, 2, 1, EXAMPLE)
        self.assertEqual((((), ()), ((0,), ())), history.parted(choice=(1, 0), line=2, version=2))
        self.assertEqual((((1, 0),), False, [(2, 1)]), (
            history.core(line=2, version=2), history.is_sure(line=2, version=2), history.possible(line=1, version=2)
        ))
        for value in [
            [(), ()], ((),), ((), (), ()), ([], ()), ((True,), ()), ((1,), ()), ((), (0,)), ((0, 0), ()), (None, ()), (Liar(), ()),
            (Grudge(), ()), "", 5,
        ] + odd_values():
            self.refused(InvalidPick, value, history.origins, value, None)
        left = history.settled(1, 0, True)
        value = ((), ())
        self.refused(InvalidPick, value, left.origins, value, 1)

    def test_blame_raises_when_it_is_asked(self):
        told = self.history.blame(7)
        self.assertRaises(InvalidVersion, next, told)
        told, other = self.history.blame(2), self.history.blame(version=0)
        self.assertEqual([(1, [(2, 1)]), (1, [(0, 1)]), (2, [(0, 1), (0, 3)]), (2, [(0, 2)])], [
            next(told), next(other), next(told), next(other)
        ])

    def test_undone_and_carried(self):
        for plain in some_histories():
            history, texts = plain.history(), plain.texts
            for k in range(1, len(texts)):
                merge = history.undone(k)
                self.assertEqual(Merge(texts[k], texts[k - 1], texts[-1], plain.costs), merge)
                self.assertEqual({}, merge.held())
                for text in (["a", "b"], ("b",), [], texts[0]):
                    merge = history.carried(k, text)
                    self.assertEqual(Merge(texts[k - 1], texts[k], text, plain.costs), merge)
                    self.assertEqual({}, merge.held())

    def test_undone_and_carried_refused(self):
        history = self.history
        for value in [0, 3, -1, True, None, "1"] + [value for value in odd_values() if value.__class__ is not int]:
            self.refused(InvalidVersion, value, history.undone, value)
            self.refused(InvalidVersion, value, history.carried, value, None)
        for value in [["a\n"], ["a"] * 61] + odd_values():
            self.refused(InvalidText, value, history.carried, 1, value)
        self.assertEqual(history.carried(1, ["c"]), history.carried(text=["c"], k=1))
        self.assertEqual(history.undone(1), history.undone(k=1))
        large = History([["a"] * 9, ["b"] * 9, ["c"] * 10], Costs())
        for call in (lambda: large.undone(1), lambda: large.carried(1, ["x"] * 10)):
            with self.assertRaises(TooLarge) as caught:
                call()
            self.assertEqual(("merge", 1000), (caught.exception.kind, caught.exception.limit))
        self.assertEqual(1, large.carried(1, ["x"] * 9).count())

    def test_equal(self):
        history = self.history
        self.assertEqual(history, History([tuple(text) for text in EXAMPLE], Costs(1)))
        for other in (
            History(EXAMPLE, Costs(1, 2)), History(EXAMPLE[:2], Costs()), History(EXAMPLE[::-1], Costs()), None, EXAMPLE,
            history.settled(1, 0, True), "History(3)",
        ):
            self.assertIs(False, history == other)
            self.assertIs(True, history != other)

    def test_what_is_passed_and_told_is_copied(self):
        texts = [list(text) for text in EXAMPLE]
        history = History(texts, Costs())
        texts[0].append("x")
        texts.append(["y"])
        told = history.texts()
        self.assertEqual(EXAMPLE, told)
        told[0].clear()
        told.clear()
        history.possible(2, 2).clear()
        history.origins(((), ()), 2).clear()
        next(history.blame(1))[1].clear()
        self.assertEqual((EXAMPLE, [(0, 1), (0, 3)]), (history.texts(), history.possible(2, 2)))
        self.assertEqual([(1, [(0, 1), (0, 3)])], list(history.blame(1)))


if __name__ == "__main__":
    unittest.main()
