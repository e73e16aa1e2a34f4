"""What the document promises over the whole program, by several stages at once."""

import unittest

from alldiffs.books import Book, tried
from alldiffs.common import common_numbers, common_pick, common_rows, numbers_of
from alldiffs.cores import core_of, is_sure, parted_readings, sure_value, value_of
from alldiffs.costs import Costs
from alldiffs.desk import Desk
from alldiffs.difftexts import diff_form, pick_form, read_diff_form, read_pick_form, read_row_form, row_form, versions_form
from alldiffs.errors import NotSure, UnknownName
from alldiffs.histories import History
from alldiffs.judge import is_paper, paper_of
from alldiffs.leastpapers import is_sure_statement
from alldiffs.mergecores import Merge
from alldiffs.readings import Readings
from alldiffs.rows import cost_together, merged, resolved, text_of, token_origins
from alldiffs.scripts import applied, script_of, turned_script
from alldiffs.settling import Settling
from alldiffs.tables import Tables
from tests.merges import OWN, TRIPLES, PlainMerge, some_merges
from tests.search import some_texts
from tests.test_choices import costs_of
from tests.test_histories import HISTORIES, some_histories
from tests.test_mergecores import ABA, MergeCase

# A base whose lines stand once, and changes of it that lie apart: lines that go, come, and are replaced.
BASE = ["k", "l", "m", "o", "p"]
CHANGES = [
    lambda lines: [line for line in lines if line != "l"], lambda lines: put_behind(lines, "m", ["x", "y"]),
    lambda lines: ["z" if line == "p" else line for line in lines], lambda lines: ["", *lines],
]


def put_behind(lines, mark, more):
    at = lines.index(mark) + 1
    return [*lines[:at], *more, *lines[at:]]


def changed(lines, numbers):
    """The lines with some of the changes."""
    for number in numbers:
        lines = CHANGES[number](lines)
    return lines


class ReadingsAndCores(MergeCase):
    def test_a_core_settled_settles_the_answer(self):
        for old, new, going, coming in some_texts():
            readings = Readings(old, new, costs_of(going, coming))
            for i in range(1, len(old) + 1):
                answer = ("partner", i)
                for reading in [readings.first(), readings.last(), readings.nth(readings.count() // 2)]:
                    left = readings
                    for choice in core_of(readings, answer):
                        left = left.settled(choice, choice in reading) if choice in left.free() else left
                    self.assertEqual(value_of(readings, reading, answer), sure_value(left, answer))
                for choice in core_of(readings, answer):
                    one, other = parted_readings(readings, answer, choice)
                    self.assertEqual({choice}, set(one) ^ set(other))
                    self.assertNotEqual(value_of(readings, one, answer), value_of(readings, other, answer))

    def test_sure_statements_are_sure_answers(self):
        for old, new, going, coming in some_texts():
            costs = costs_of(going, coming)
            readings = Readings(old, new, costs)
            for i in range(1, len(old) + 1):
                values = [value for value in (True, False) if is_sure_statement(old, new, costs, (("goes", i), value))]
                self.assertIs(len(values) == 1, is_sure(readings, ("goes", i)))
                if values:
                    self.assertIs(values[0], sure_value(readings, ("goes", i)))

    def test_diffs_and_their_forms_and_scripts(self):
        for old, new, going, coming in some_texts():
            costs = costs_of(going, coming)
            readings, tables = Readings(old, new, costs), Tables(old, new, costs)
            turned = Readings(new, old, costs.turned_about())
            diffs = [readings.diff_of(reading) for reading in readings.in_order()]
            self.assertEqual(len(diffs), len(set(diffs)))
            self.assertEqual(readings.count(), turned.count())
            for diff in diffs:
                self.assertIn(diff, tables)
                self.assertEqual((old, new, diff), read_diff_form(diff_form(old, new, diff)))
                self.assertEqual(new, applied(old, script_of(old, new, diff)))
                self.assertEqual(old, applied(new, turned_script(script_of(old, new, diff))))
                about = tuple((j, i) for i, j in diff)
                self.assertEqual(about, turned.diff_of(turned.reading_of(about)))


class Merges(MergeCase):
    def test_settled_as_a_pick_has_them_until_its_row_is_left(self):
        for plain in some_merges():
            merge = plain.merge()
            for pick in plain.picks[:: max(1, len(plain.picks) // 6)]:
                left, asked = merge, 0
                while not left.is_sure():
                    version, choice = left.core()[asked % len(left.core())]
                    left, asked = left.settled((version, choice), choice in pick[version - 1]), asked + 1
                self.assertEqual(plain.rows[pick], left.row())
                self.assertLessEqual(asked, len(merge.core()))
                self.assertIs(True, is_paper(("row", left, left.row()), paper_of(("row", left, left.row()))))

    def test_picks_that_agree_on_the_core_have_one_row(self):
        for plain in some_merges():
            core, told = plain.merge().core(), {}
            for pick in plain.picks:
                told.setdefault(tuple(k in pick[version - 1] for version, k in core), set()).add(plain.rows[pick])
            self.assertEqual({1}, {len(rows) for rows in told.values()})

    def test_a_common_pick_by_the_functions_of_the_other_stages(self):
        for plain in some_merges():
            merge = plain.merge()
            pick = read_pick_form(pick_form(common_pick(merge)))
            diffs = [merge.readings(1).diff_of(pick[0]), merge.readings(2).diff_of(pick[1])]
            row = merged(*plain.texts, *diffs)
            self.assertIn(row, common_rows(merge))
            origins = token_origins(*plain.texts, *diffs)
            clashes = sum(1 for origin in origins if origin[0] == "clash")
            self.assertEqual(common_numbers(merge), (clashes, cost_together(*plain.texts, *diffs, plain.costs)))
            self.assertEqual(row, read_row_form(row_form(row)))

    def test_changes_that_lie_apart(self):
        for k in range(16):
            mine = [number for number in range(4) if k >> number & 1]
            for n in range(16):
                yours = [number for number in range(4) if n >> number & 1]
                one, two = changed(BASE, mine), changed(BASE, yours)
                merge = Merge(BASE, one, two, Costs())
                self.assertEqual(((), True, 0), (merge.core(), merge.is_sure(), common_numbers(merge)[0]))
                both = changed(BASE, sorted({*mine, *yours}))
                self.assertEqual(both, text_of(merge.row()))
                self.assertEqual([tuple(both)], common_rows(merge))

    def test_texts_merged_with_themselves(self):
        for base, one, two in TRIPLES:
            for costs in (Costs(), costs_of(*OWN)):
                for text in (one, two):
                    merge = Merge(list(base), list(text), list(text), costs)
                    self.assertEqual([tuple(text)], common_rows(merge))
                    cost = Tables(list(base), list(text), costs).total
                    self.assertEqual((0, cost), common_numbers(merge))


class HistoriesAndMerges(MergeCase):
    def test_changes_that_lie_apart_undone_and_carried(self):
        for numbers in ((0, 1, 2, 3), (3, 1, 0, 2), (2, 0)):
            versions = [changed(BASE, numbers[:k]) for k in range(len(numbers) + 1)]
            history = History(versions, Costs())
            for k, number in enumerate(numbers, start=1):
                others = [other for other in numbers if other != number]
                merge = history.undone(k)
                self.assertEqual(((), changed(BASE, others)), (merge.core(), text_of(merge.row())))
                for more in ([], others, others[:1], [number], list(numbers)):
                    merge = history.carried(k, changed(BASE, more))
                    self.assertEqual(True, merge.is_sure())
                    self.assertEqual(changed(BASE, [*more, *[number][:number not in more]]), text_of(merge.row()))

    def test_common_rows_of_changes_carried_over(self):
        found = 0
        for texts in HISTORIES:
            history = History([list(text) for text in texts], Costs())
            for k in range(1, len(history)):
                for text in ("", "ab", "aba", "baab"):
                    plain = PlainMerge(texts[k - 1], texts[k], text)
                    merge = history.carried(k, list(text))
                    self.assertEqual(plain.common_rows(), common_rows(merge))
                    self.assertEqual(plain.core(), merge.core())
                    found += not merge.is_sure()
                self.assertEqual([tuple(texts[k])], common_rows(history.carried(k, list(texts[k - 1]))))
                self.assertEqual([tuple(texts[k])], common_rows(history.carried(k, list(texts[k]))))
                self.assertEqual([tuple(texts[k - 1])], common_rows(History(history.texts()[:k + 1], Costs()).undone(k)))
        self.assertGreater(found, 20)

    def test_origins_by_the_answers_of_each_change(self):
        for plain in some_histories():
            history = plain.history()
            last = len(plain.texts) - 1
            for line in range(1, len(plain.texts[last]) + 1):
                own = {(k, choice) for k, choice in history.core(last, line) if k == last}
                self.assertEqual({(last, choice) for choice in core_of(history.readings(last), ("mate", line))}, own)

    def test_versions_written_and_asked_at_a_desk(self):
        for texts in HISTORIES[:6]:
            versions = [list(text) for text in texts]
            self.assertEqual(sum(len(text) + 1 for text in versions), versions_form(versions).count("\n"))
            desk = Desk()
            for at, text in enumerate(versions):
                desk.say("put " + "abcdef"[at] + "".join("\n|" + line for line in text))
            history = History(versions, Costs())
            for k in range(1, len(versions)):
                self.assertEqual(str(history.readings(k).count()), desk.say(f"count {'abcdef'[k - 1]} {'abcdef'[k]}"))


class TheWholeProgram(MergeCase):
    def test_rows_resolved(self):
        merge = Merge(["a"], ["b"], ["c"], Costs())
        self.assertEqual((["b"], ["c"], ["b", "c"]), tuple(resolved(merge.row(), side) for side in ("one", "two", "both")))

    def test_generators_and_contexts_beside_one_another(self):
        history, readings = History([list(text) for text in ("aba", "a", "ca")], Costs()), Readings(list("xyxy"), list("xy"), Costs())
        desk, settling, book = Desk(), Settling(readings, ("partner", 1)), Book()
        told = (history.blame(2), readings.in_order(), desk.play("put a\n|x", "put b"), settling.questions())
        with book.trial() as trial, settling:
            book.put("a", ["x"])
            self.assertEqual([(1, [(2, 1)]), (0, 1), "ok", 0], [next(rows) for rows in told])
            settling.settle(0)
            trial.keep()
            self.assertEqual([(2, [(0, 1), (0, 3)]), (0,), "ok"], [next(rows) for rows in told[:3]])
        self.assertEqual(([], ["a"], ["a", "b"]), (settling.log(), book.names(), desk.book().names()))

    def test_refused_calls_change_nothing(self):
        merge, book = Merge(*ABA, Costs()), Book()
        book.put("a", ["x"])
        for call in (
            lambda: merge.settled((1, 5), True), lambda: merge.row_of(None), merge.row, lambda: book.drop("b"), lambda: book.put("A", []),
            lambda: tried(book, [("put", "b", []), ("drop", "c")], keep=True), lambda: merge.parted("no"), lambda: book["b"],
        ):
            self.assertRaises((ValueError, LookupError, NotSure, UnknownName), call)
        self.assertEqual((Merge(*ABA, Costs()), ((1, 0),), ["a"]), (merge, merge.core(), book.names()))
        book.undo()
        self.assertEqual(Book(), book)

    def test_repeated_calls_tell_equal_results(self):
        for plain in list(some_merges())[::3]:
            merge = plain.merge()
            for call in (
                merge.core, merge.held, merge.count, merge.is_sure, lambda: common_numbers(merge), lambda: common_rows(merge),
                lambda: common_pick(merge), lambda: repr(merge), lambda: numbers_of(merge, plain.picks[0]), merge.swapped,
            ):
                self.assertEqual(call(), call())
            for choice in plain.choices():
                self.assertEqual(merge.parted(choice), merge.parted(choice))

    def test_arguments_by_their_names_in_another_sequence(self):
        merge = Merge(costs=Costs(), one=ABA[1], base=ABA[0], two=ABA[2])
        self.assertEqual(Merge(*ABA, Costs()), merge)
        self.assertEqual(merge.settled((1, 0), True), merge.settled(made=True, choice=(1, 0)))
        self.assertEqual("-a\n", diff_form(diff=(), new=[], old=["a"]))
        self.assertEqual(History.of(["a"], [], costs=Costs()), History(costs=Costs(), versions=[["a"], []]))
        book = Book(costs=Costs(2, 2))
        book.put(lines=["x"], name="a")
        self.assertEqual([[("a", ["x"])]], tried(keep=False, deeds=[("rates", Costs())], book=book))
        claim = ("parts", merge, (1, 0))
        self.assertIs(True, is_paper(value=paper_of(claim=claim), claim=claim))


if __name__ == "__main__":
    unittest.main()
