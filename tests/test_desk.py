import unittest

from alldiffs.books import Book
from alldiffs.common import common_numbers
from alldiffs.cores import core_of, sure_value
from alldiffs.costs import Costs
from alldiffs.desk import Desk
from alldiffs.difftexts import row_form
from alldiffs.errors import (
    InvalidAnswer, InvalidChoice, InvalidCosts, InvalidRow, InvalidText, NoQuestion, NothingToUndo, TooLarge, UnknownName,
)
from alldiffs.readings import Readings
from alldiffs.settling import Settling
from alldiffs.tables import least_cost
from tests.merges import TRIPLES
from tests.search import odd_values, some_texts
from tests.test_choices import costs_of
from tests.test_mergecores import MergeCase

PUTS = ["put o\n|a\n|b\n|a", "put a\n|a", "put b\n|a\n|c\n|b\n|a"]
NO_ROWS = [
    "", " ", "\n", "put", "put ", "put  a", "put A", "put a ", " put a", "put a b", "put a\n", "put a\nx", "put a\n|x\n", "put a\n|x\ny",
    "put a\n\n|x", "put abcdefghijklm", "put a1", "Put a", "put a|x", "drop", "drop  a", "drop a b", "drop A", "drop 1", "drop a\n", "undo ",
    " undo", "undo a", "UNDO", "undo\n", "costs", "costs 1", "costs 1 2 3", "costs 01 2", "costs 1 -2", "costs a b", "costs 1 2 ",
    "costs  1 2", "costs +1 2", "costs 1 2\n", "costs 1.0 2", "costs 1 2x", "least", "least o", "least o a b", "least o A", "least o 1",
    "count o", "count o a 1", "pair o a", "pair o a 1", "pair o a 1 1 1", "pair o a 01 1", "pair o a 1 1 ", "pair o a -1 1", "pair o a x y",
    "goes o a", "goes o a 00", "goes o a 1 2", "goes o 1 1", "partner o a", "partner o a x", "ask o a", "ask o a comes 1", "ask o a pair 1",
    "ask o a goes 1 2", "ask o a goes", "ask o a partner 01", "ask goes 1", "ask o a mate 1", "ask o a Goes 1", "made", "made x", "made 01",
    "made 1 2", "made -1", "made ", "unmade", "unmade 00", "back 1", "back ", "Back", "merge o a", "merge o a b o", "merge o a 1", "merge",
    "common o a", "common o a b o", "common", "commonly o a b", "hello", "put o\n|a\n|b\r\n", "|a", "ok", "none", "least o a\n|x", "drop a\n|x",
]


def book_of(texts, costs=None):
    """A book with these texts, a dict, without deeds that the desk could undo."""
    book = Book(costs)
    for name, lines in texts.items():
        book.put(name, lines)
    return book


def told(readings, answer):
    """What a desk answers to a question."""
    core = core_of(readings, answer)
    return "open " + " ".join(map(str, core)) if core else str(sure_value(readings, answer))


class Desks(MergeCase):
    def setUp(self):
        self.desk = Desk()
        self.assertEqual(["ok"] * 3, list(self.desk.play(*PUTS)))

    def test_each_row(self):
        desk = self.desk
        for row, answer in (
            ("least o a", "2"), ("count o a", "2"), ("count a a", "1"), ("pair o a 1 1", "open 0"), ("pair o a 2 1", "False"),
            ("goes o a 2", "True"), ("goes o a 1", "open 0"), ("partner o a 2", "None"), ("partner o b 2", "3"), ("pair o b 3 4", "True"),
            ("merge o a b", "open 1.0"), ("common o a b", "0 3"), ("merge o b b", "sure\na\nc\nb\na"), ("merge o b o", "sure\na\nc\nb\na"),
            ("ask o a goes 1", "open 0"), ("made 0", "False"), ("back", "open 0"), ("unmade 0", "True"), ("ask o a partner 3", "open 0"),
            ("made 0", "None"), ("ask o b goes 2", "False"), ("costs 2 3", "ok"), ("least o a", "4"), ("least a o", "6"), ("undo", "ok"),
            ("least a o", "2"), ("drop b", "ok"), ("undo", "ok"), ("merge a o o", "open 1.0 2.0"), ("put e", "ok"), ("least e o", "3"),
            ("merge e e e", "sure"), ("put f\n|", "ok"), ("merge e f e", "sure\n"), ("put g\n|<<<<\n|\\", "ok"),
            ("merge e g f", "sure\n<<<< 0 0\n\\<<<<\n\\\\\n====\n\n>>>>"), ("common e g f", "1 3"),
        ):
            self.assertEqual(answer, desk.say(row=row), row)

    def test_beside_the_functions_of_the_package(self):
        for old, new, going, coming in some_texts():
            costs = costs_of(going, coming)
            desk = Desk(book_of({"old": old, "new": new}, costs))
            readings = Readings(old, new, costs)
            self.assertEqual(str(least_cost(old, new, costs)), desk.say("least old new"))
            self.assertEqual(str(readings.count()), desk.say("count old new"))
            for i in range(1, len(old) + 1):
                self.assertEqual(told(readings, ("goes", i)), desk.say(f"goes old new {i}"))
                self.assertEqual(told(readings, ("partner", i)), desk.say(f"partner old new {i}"))
                for j in range(1, len(new) + 1):
                    self.assertEqual(told(readings, ("pair", i, j)), desk.say(f"pair old new {i} {j}"))

    def test_merges_beside_the_functions_of_the_package(self):
        for base, one, two in TRIPLES:
            book = book_of({"base": list(base), "one": list(one), "two": list(two)})
            merge, desk = book.merge("base", "one", "two"), Desk(book)
            self.assertEqual(" ".join(map(str, common_numbers(merge))), desk.say("common base one two"))
            if merge.is_sure():
                rows = "".join("\n" + row for row in row_form(merge.row()).split("\n")[:-1])
                self.assertEqual("sure" + rows, desk.say("merge base one two"))
            else:
                core = " ".join(f"{version}.{choice}" for version, choice in merge.core())
                self.assertEqual(f"open {core}", desk.say("merge base one two"))

    def test_questions_asked_through(self):
        for old, new, going, coming in some_texts():
            desk = Desk(book_of({"old": old, "new": new}, costs_of(going, coming)))
            readings = Readings(old, new, costs_of(going, coming))
            for i in range(1, len(old) + 1):
                for kind in ("goes", "partner"):
                    settling = Settling(readings, (kind, i))
                    self.assertEqual(told(readings, (kind, i)), desk.say(f"ask old new {kind} {i}"))
                    asked = []
                    while settling.core():
                        made = len(asked) % 2 == 0
                        settling.settle(settling.core()[-1], made=made)
                        choice = settling.log()[-1][0]
                        asked.append(desk.say(f"made {choice}" if made else f"unmade {choice}"))
                        self.assertEqual(told(settling.left, (kind, i)), asked[-1])
                    for answer in [told(readings, (kind, i)), *asked][-2::-1]:
                        self.assertEqual(answer, desk.say("back"))
                    self.assertRaises(NothingToUndo, desk.say, "back")

    def test_the_question_is_dropped(self):
        for row in ("put x", "drop b", "undo", "costs 1 1"):
            desk = self.desk
            desk.say("ask o a goes 1")
            self.assertEqual("False", desk.say("made 0"))
            self.assertEqual("ok", desk.say(row))
            for other in ("made 0", "unmade 0", "back", "made 77"):
                self.assertRaises(NoQuestion, desk.say, other)
        self.assertRaises(NoQuestion, Desk().say, "back")

    def test_the_question_stays(self):
        desk = self.desk
        desk.say("ask o a goes 1")
        desk.say("unmade 0")
        for row in ("least o a", "count o a", "goes o a 1", "merge o a b", "common o a b"):
            desk.say(row)
        for row, error in (
            ("drop q", UnknownName), ("costs 0 1", InvalidCosts), ("ask o q goes 1", UnknownName), ("ask o a goes 9", InvalidAnswer),
            ("made 0", InvalidChoice), ("least q a", UnknownName), ("goes o a 9", InvalidAnswer), ("nothing", InvalidRow),
        ):
            self.assertRaises(error, desk.say, row)
        self.assertEqual("open 0", desk.say("back"))
        desk = Desk(book_of({"o": ["a", "b", "a"], "a": ["a"]}))
        desk.say("ask o a goes 1")
        self.assertRaises(NothingToUndo, desk.say, "undo")
        self.assertEqual("False", desk.say("made 0"))

    def test_a_new_question(self):
        desk = self.desk
        desk.say("ask o a goes 1")
        desk.say("made 0")
        self.assertEqual("open 0", desk.say("ask o a pair 1 1"))
        self.assertRaises(NothingToUndo, desk.say, "back")
        self.assertEqual("False", desk.say("unmade 0"))
        desk.say("ask a o goes 1")
        self.assertRaises(InvalidChoice, desk.say, "made 0")

    def test_rows_that_are_none(self):
        for value in NO_ROWS + [value for value in odd_values() if not isinstance(value, str)]:
            self.refused(InvalidRow, value, self.desk.say, value)
        self.assertEqual(["a", "b", "o"], self.desk.book().names())
        self.assertEqual("ok", self.desk.say("undo"))

    def test_lines_of_put(self):
        desk = Desk()
        for row, lines in (
            ("put a", []), ("put a\n|", [""]), ("put a\n|\n|", ["", ""]), ("put a\n||\n| x ", ["|", " x "]), ("put abcdefghijkl\n|put a", ["put a"]),
            ("put undo\n|undo", ["undo"]), ("put a" + "\n|x" * 60, ["x"] * 60),
        ):
            self.assertEqual("ok", desk.say(row))
            self.assertEqual(lines, desk.book()[row.split("\n")[0][4:]])
        with self.assertRaises(InvalidText) as caught:
            desk.say("put a" + "\n|y" * 61)
        self.assertEqual(["y"] * 61, caught.exception.value)
        self.assertEqual(["x"] * 60, desk.book()["a"])

    def test_errors(self):
        desk = self.desk
        for row, error, field, value in (
            ("drop q", UnknownName, "name", "q"), ("least q r", UnknownName, "name", "q"), ("least o r", UnknownName, "name", "r"),
            ("count o q", UnknownName, "name", "q"), ("pair o q 0 0", UnknownName, "name", "q"), ("goes q o 0", UnknownName, "name", "q"),
            ("partner o q 0", UnknownName, "name", "q"), ("ask o q pair 9 9", UnknownName, "name", "q"), ("merge o a q", UnknownName, "name", "q"),
            ("merge q r s", UnknownName, "name", "q"), ("common o q r", UnknownName, "name", "q"), ("pair o a 0 1", InvalidAnswer, "value", ("pair", 0, 1)),
            ("pair o a 1 2", InvalidAnswer, "value", ("pair", 1, 2)), ("goes o a 4", InvalidAnswer, "value", ("goes", 4)),
            ("goes o a 0", InvalidAnswer, "value", ("goes", 0)), ("partner o a 4", InvalidAnswer, "value", ("partner", 4)),
            ("ask o a partner 4", InvalidAnswer, "value", ("partner", 4)), ("ask o a pair 4 1", InvalidAnswer, "value", ("pair", 4, 1)),
            ("costs 0 0", InvalidCosts, "problem", "going"), ("costs 1 0", InvalidCosts, "problem", "coming"),
            ("costs 1000000 1", InvalidCosts, "value", 1000000), ("costs 1 1000000", InvalidCosts, "value", 1000000),
        ):
            with self.assertRaises(error) as caught:
                desk.say(row)
            self.assertEqual(value, getattr(caught.exception, field), row)
        desk.say("ask o a goes 1")
        for row, value in (("made 1", 1), ("unmade 7", 7), ("made 99999999", 99999999)):
            with self.assertRaises(InvalidChoice) as caught:
                desk.say(row)
            self.assertEqual(value, caught.exception.value)
        desk.say("put l" + "\n|x" * 60)
        with self.assertRaises(TooLarge) as caught:
            desk.say("merge l l l")
        self.assertEqual(("merge", 1000), (caught.exception.kind, caught.exception.limit))
        self.assertRaises(TooLarge, desk.say, "common l l l")

    def test_costs(self):
        desk = Desk(book_of({"a": ["x"], "b": ["y"]}, Costs(1, 1, {"x": (50, 50)})))
        self.assertEqual("51", desk.say("least a b"))
        self.assertEqual("ok", desk.say("costs 999999 3"))
        self.assertEqual(("1000002", Costs(999999, 3)), (desk.say("least a b"), desk.book().rates))

    def test_the_book_is_a_copy(self):
        book = book_of({"a": ["x"], "b": ["y"]}, Costs(2, 5))
        desk = Desk(book=book)
        self.assertEqual(book, desk.book())
        self.assertRaises(NothingToUndo, desk.say, "undo")
        book.put("c", ["z"])
        book.rates = Costs(9, 9)
        self.assertEqual(["a", "b"], desk.book().names())
        self.assertEqual("7", desk.say("least a b"))
        desk.say("put d\n|w")
        self.assertEqual(["a", "b", "c"], book.names())
        told_book = desk.book()
        self.assertRaises(NothingToUndo, told_book.undo)
        told_book.put("e", [])
        self.assertEqual((["a", "b", "d"], Costs(2, 5)), (desk.book().names(), desk.book().rates))
        self.assertEqual("ok", desk.say("undo"))
        self.assertEqual(["a", "b"], desk.book().names())
        self.assertEqual(Book(), Desk().book())
        self.assertEqual(Book(), Desk(None).book())

    def test_play(self):
        desk = Desk()
        answers = desk.play("put a\n|x", "count a a", "least a b", "put b")
        self.assertEqual([], desk.book().names())
        self.assertEqual("ok", next(answers))
        self.assertEqual(["a"], desk.book().names())
        desk.say("put a\n|x\n|x")
        self.assertEqual("1", next(answers))
        self.assertRaises(UnknownName, next, answers)
        self.assertEqual([], list(answers))
        self.assertEqual(["a"], desk.book().names())
        self.assertEqual([], list(desk.play()))
        self.assertRaises(InvalidRow, next, desk.play(None))
        one, other = desk.play("put c", "drop c"), desk.play("drop c", "put c")
        self.assertEqual(["ok", "ok", "ok"], [next(one), next(other), next(other)])
        self.assertEqual((True, "ok", False), ("c" in desk.book(), next(one), "c" in desk.book()))


if __name__ == "__main__":
    unittest.main()
