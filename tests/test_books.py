import unittest
from itertools import product

from alldiffs.books import Book, Trial, tried
from alldiffs.costs import Costs
from alldiffs.errors import InvalidCosts, InvalidName, InvalidText, NothingToUndo, TooLarge, UnknownName
from alldiffs.mergecores import Merge
from alldiffs.readings import Readings
from tests.search import Grudge, Liar, odd_values
from tests.test_mergecores import MergeCase

NO_NAMES = ["", "abcdefghijklm", "A", "aB", "a1", "a b", " a", "a ", "a_b", "a-b", "a\n", "a.b", b"a", ("a",), ["a"], None, 1, True]
DEEDS = [("put", "a", ["x"]), ("put", "b", []), ("drop", "a"), ("rates", Costs(3, 4)), ("undo",), ("put", "a", ("y", "z"))]


class Stop(Exception):
    """An error of its own, to end a with statement."""


def told(book):
    """All that a book tells of its texts and costs."""
    return {name: book[name] for name in book.names()}, book.rates


def many_deeds(book):
    """How many deeds of a book can be undone; all of them are."""
    many = 0
    while True:
        try:
            book.undo()
        except NothingToUndo:
            return many
        many += 1


class PlainBook:
    """A book as a list of all that it held, the last one for now; a trial keeps its own list."""

    def __init__(self):
        self.held = [({}, Costs())]

    def does(self, deed):
        texts, rates = self.held[-1]
        if deed[0] == "put":
            self.held.append(({**texts, deed[1]: list(deed[2])}, rates))
        elif deed[0] == "drop":
            if deed[1] not in texts:
                raise UnknownName(deed[1])
            self.held.append(({name: texts[name] for name in texts if name != deed[1]}, rates))
        elif deed[0] == "rates":
            self.held.append((texts, deed[1]))
        elif deed[0] == "undo":
            if len(self.held) == 1:
                raise NothingToUndo()
            self.held.pop()
        else:
            self.tries(deed[1], deed[2])

    def tries(self, deeds, keep):
        inner = PlainBook()
        inner.held = [self.held[-1]]
        rows = []
        for deed in deeds:
            inner.does(deed)
            texts = inner.held[-1][0]
            rows.append(sorted((name, list(texts[name])) for name in texts))
        if keep and len(inner.held) > 1:
            self.held.append(inner.held[-1])
        return rows


class Books(MergeCase):
    def setUp(self):
        self.book = Book()
        self.book.put("old", ["a", "b", "a"])
        self.book.put("new", ["a"])

    def test_a_new_one(self):
        book = Book()
        self.assertEqual((0, [], Costs(), Book()), (len(book), book.names(), book.rates, Book(None)))
        self.assertRaises(NothingToUndo, book.undo)
        self.assertEqual(Costs(2, 3), Book(Costs(2, 3)).rates)
        self.assertEqual(Costs(2, 3), Book(costs=Costs(2, 3)).rates)
        self.assertRaises(NothingToUndo, Book(Costs(2, 3)).undo)
        for value in odd_values():
            if value is not None:
                with self.assertRaises(InvalidCosts) as caught:
                    Book(value)
                self.assertEqual("costs", caught.exception.problem)
                self.assertIs(value, caught.exception.value)

    def test_put_and_drop(self):
        book = self.book
        self.assertEqual((2, ["new", "old"], ["a", "b", "a"], ["a"]), (len(book), book.names(), book["old"], book["new"]))
        self.assertIsNone(book.put(name="new", lines=("x", "y")))
        self.assertEqual((2, ["x", "y"]), (len(book), book["new"]))
        self.assertIsNone(book.drop(name="old"))
        self.assertEqual((["new"], True, False), (book.names(), "new" in book, "old" in book))
        book.put("old", [])
        self.assertEqual(([], 2), (book["old"], len(book)))

    def test_undo(self):
        book = Book()
        states = [told(book)]
        for step in (
            lambda: book.put("a", ["x"]), lambda: book.put("a", ["x"]), lambda: book.put("b", []), lambda: book.drop("a"),
            lambda: setattr(book, "rates", Costs(2, 2)), lambda: setattr(book, "rates", Costs(2, 2)), lambda: book.put("a", ["y"]),
        ):
            step()
            states.append(told(book))
        for state in states[:-1][::-1]:
            self.assertIsNone(book.undo())
            self.assertEqual(state, told(book))
        self.assertRaises(NothingToUndo, book.undo)

    def test_rates(self):
        book = self.book
        book.rates = Costs(5, 6)
        self.assertEqual((Costs(5, 6), Costs(5, 6)), (book.rates, book.readings("old", "new").costs))
        for value in odd_values():
            with self.assertRaises(InvalidCosts) as caught:
                book.rates = value
            self.assertEqual("costs", caught.exception.problem)
            self.assertIs(value, caught.exception.value)
        self.assertEqual(Costs(5, 6), book.rates)
        book.undo()
        self.assertEqual(Costs(), book.rates)
        self.assertEqual(2, many_deeds(book))

    def test_names(self):
        book = Book()
        for name in ("a", "z", "abcdefghijkl", "zzzzzzzzzzzz", "undo"):
            self.assertIsNone(book.put(name, [name]))
            self.assertIs(True, name in book)
        self.assertEqual(sorted(["a", "z", "abcdefghijkl", "zzzzzzzzzzzz", "undo"]), book.names())
        for value in NO_NAMES + odd_values():
            if value.__class__ is not str or value != "a":
                self.refused(InvalidName, value, book.put, value, None)
                self.assertIs(False, value in book)
                self.refused(UnknownName, value, book.drop, value)
                self.refused(UnknownName, value, lambda at: book[at], value)
                self.refused(UnknownName, value, book.readings, value, None)
                self.refused(UnknownName, value, book.readings, "a", value)
                self.refused(UnknownName, value, book.merge, value, None, None)
                self.refused(UnknownName, value, book.merge, "a", value, None)
                self.refused(UnknownName, value, book.merge, "a", "a", value)
        self.refused(UnknownName, "b", book.drop, "b")
        for value in [["a\n"], ["a"] * 61, "abc"] + odd_values():
            self.refused(InvalidText, value, book.put, "c", value)
        self.assertEqual((5, 5), (len(book), many_deeds(book)))

    def test_a_book_has_no_order(self):
        self.assertRaises(TypeError, iter, self.book)
        self.assertRaises(TypeError, list, self.book)

    def test_readings_and_merge(self):
        book = self.book
        book.put("two", ["a", "c", "b", "a"])
        book.rates = Costs(2, 1)
        self.assertEqual(Readings(["a", "b", "a"], ["a"], Costs(2, 1)), book.readings("old", "new"))
        self.assertEqual(book.readings("new", "old"), book.readings(new="old", old="new"))
        self.assertEqual(Merge(["a", "b", "a"], ["a"], ["a", "c", "b", "a"], Costs(2, 1)), book.merge("old", "new", "two"))
        self.assertEqual(book.merge("old", "new", "two"), book.merge(two="two", one="new", base="old"))
        book.put("long", ["x"] * 60)
        with self.assertRaises(TooLarge) as caught:
            book.merge("long", "long", "long")
        self.assertEqual(("merge", 1000), (caught.exception.kind, caught.exception.limit))

    def test_equal(self):
        other = Book(Costs(1, 1))
        other.put("new", ("a",))
        other.put("x", [])
        other.drop("x")
        self.assertNotEqual(self.book, other)
        other.put("old", ["a", "b", "a"])
        self.assertIs(True, self.book == other)
        other.rates = Costs(1, 2)
        self.assertIs(False, self.book == other)
        other.undo()
        self.assertEqual(self.book, other)
        for value in (None, {}, {"old": ["a", "b", "a"], "new": ["a"]}, 5, "Book", Costs()):
            self.assertIs(False, self.book == value)
            self.assertIs(True, self.book != value)

    def test_what_is_passed_and_told_is_copied(self):
        lines = ["k"]
        self.book.put("k", lines)
        lines.append("more")
        self.assertEqual(["k"], self.book["k"])
        self.book["k"].append("more")
        self.book.names().clear()
        self.assertEqual((["k"], ["k", "new", "old"]), (self.book["k"], self.book.names()))


class Trials(MergeCase):
    def setUp(self):
        self.book = Book()
        self.book.put("a", ["x"])
        self.before = told(self.book)

    def test_not_kept(self):
        book = self.book
        with book.trial() as trial:
            self.assertIsInstance(trial, Trial)
            book.put("b", ["y"])
            book.rates = Costs(2, 2)
            book.drop("a")
            self.assertEqual((["b"], Costs(2, 2)), (book.names(), book.rates))
        self.assertEqual((self.before, 1), (told(book), many_deeds(book)))

    def test_kept_as_a_single_deed(self):
        book = self.book
        with book.trial() as trial:
            book.put("b", ["y"])
            self.assertIsNone(trial.keep())
            book.put("c", ["z"])
            book.put("d", [])
            book.undo()
        self.assertEqual(["a", "b", "c"], book.names())
        book.undo()
        self.assertEqual(self.before, told(book))
        self.assertEqual(1, many_deeds(book))

    def test_kept_though_the_texts_are_as_they_were(self):
        book = self.book
        with book.trial() as trial:
            book.put("b", [])
            book.drop("b")
            trial.keep()
        self.assertEqual((self.before, 2), (told(book), many_deeds(book)))

    def test_nothing_done_or_all_undone(self):
        for deeds in ((), ("put",), ("put", "rates")):
            book = Book()
            book.put("a", ["x"])
            with book.trial() as trial:
                for deed in deeds:
                    if deed == "put":
                        book.put("b", [])
                    else:
                        book.rates = Costs(7, 7)
                for _ in deeds:
                    book.undo()
                trial.keep()
            self.assertEqual((self.before, 1), (told(book), many_deeds(book)))

    def test_nothing_of_before_is_undone_within(self):
        book = self.book
        with book.trial():
            self.assertRaises(NothingToUndo, book.undo)
            book.put("b", [])
            book.undo()
            self.assertRaises(NothingToUndo, book.undo)
            self.assertEqual(self.before, told(book))
        book.undo()
        self.assertEqual(0, len(book))

    def test_an_error_leaves_it(self):
        book = self.book
        with self.assertRaises(Stop):
            with book.trial() as trial:
                book.put("b", [])
                trial.keep()
                raise Stop()
        self.assertEqual((self.before, 1), (told(book), many_deeds(book)))
        with self.assertRaises(UnknownName):
            with book.trial() as trial:
                trial.keep()
                book.put("b", [])
                book.drop("zzz")
        self.assertEqual(0, len(book))

    def test_within_one_another(self):
        for outer, inner, fails in product((True, False), repeat=3):
            book = Book()
            book.put("a", ["x"])
            with book.trial() as first:
                book.put("b", [])
                if outer:
                    first.keep()
                try:
                    with book.trial() as second:
                        self.assertRaises(NothingToUndo, book.undo)
                        book.put("c", [])
                        book.put("d", [])
                        if inner:
                            second.keep()
                        if fails:
                            raise Stop()
                except Stop:
                    pass
                kept = inner and not fails
                self.assertEqual(["a", "b", "c", "d"] if kept else ["a", "b"], book.names())
                if kept:
                    book.undo()
                    self.assertEqual(["a", "b"], book.names())
                book.put("e", [])
            self.assertEqual(["a", "b", "e"] if outer else ["a"], book.names())
            self.assertEqual(2 if outer else 1, many_deeds(book))

    def test_the_outer_one_kept_within_the_inner_one(self):
        book = self.book
        with book.trial() as outer:
            book.put("b", [])
            with book.trial():
                book.put("c", [])
                outer.keep()
        self.assertEqual((["a", "b"], 2), (book.names(), many_deeds(book)))

    def test_one_after_the_other_and_beside_one_another(self):
        book, other = self.book, Book()
        context = book.trial()
        self.assertEqual(self.before, told(book))
        book.put("k", [])
        with context as trial:
            book.put("b", [])
            trial.keep()
        with context:
            book.put("c", [])
        self.assertEqual(["a", "b", "k"], book.names())
        trial.keep()
        with book.trial() as first, other.trial() as second:
            book.put("d", [])
            other.put("e", [])
            second.keep()
        self.assertEqual((["a", "b", "k"], ["e"]), (book.names(), other.names()))
        first.keep()
        self.assertEqual((["a", "b", "k"], 3), (book.names(), many_deeds(book)))

    def test_a_refused_deed_within(self):
        book = self.book
        with book.trial() as trial:
            self.assertRaises(InvalidName, book.put, "A", [])
            self.assertRaises(UnknownName, book.drop, "q")
            trial.keep()
        self.assertEqual((self.before, 1), (told(book), many_deeds(book)))


class Tried(MergeCase):
    def test_small_ones(self):
        book = Book()
        deeds = [("put", "b", ["x"]), ("put", "a", ("y",)), ("drop", "b"), ("undo",), ("rates", Costs(2, 2))]
        rows = [[("b", ["x"])], [("a", ["y"]), ("b", ["x"])], [("a", ["y"])], [("a", ["y"]), ("b", ["x"])], [("a", ["y"]), ("b", ["x"])]]
        self.assertEqual(rows, tried(book, deeds))
        self.assertEqual((Book(), 0), (book, many_deeds(book)))
        self.assertEqual(rows, tried(keep=True, deeds=tuple(deeds), book=book))
        self.assertEqual((["a", "b"], Costs(2, 2)), (book.names(), book.rates))
        self.assertEqual(1, many_deeds(book))
        self.assertEqual([], tried(book, [], keep=True))
        self.assertRaises(TypeError, tried, book, [], True)

    def test_trials_within(self):
        book = Book()
        book.put("a", [])
        inner = [("put", "b", []), ("trial", [("drop", "a"), ("undo",)], True), ("put", "c", [])]
        rows = tried(book, [("trial", inner, True), ("undo",), ("trial", inner, False)], keep=True)
        self.assertEqual([["a", "b", "c"], ["a"], ["a"]], [[name for name, _ in row] for row in rows])
        self.assertEqual((["a"], 1), (book.names(), many_deeds(book)))
        self.assertEqual(0, many_deeds(book))

    def test_errors(self):
        for deed, error in (
            (("put", "A", []), InvalidName), (("put", "a", "no"), InvalidText), (("drop", "q"), UnknownName), (("undo",), NothingToUndo),
            (("rates", None), InvalidCosts), (("trial", [("put", "b", []), ("drop", "q")], True), UnknownName),
            (("trial", [("undo",)], False), NothingToUndo),
        ):
            book = Book()
            book.put("k", ["x"])
            before = told(book)
            rows = [deed] if deed[0] == "undo" else [("put", "a", []), deed]
            for keep in (True, False):
                self.assertRaises(error, tried, book, rows, keep=keep)
                self.assertEqual(before, told(book))
            self.assertEqual(1, many_deeds(book))

    def test_by_a_plain_book(self):
        for rows in product(DEEDS, repeat=4):
            for keep in (True, False):
                self.check(list(rows), keep)
        for rows in product(DEEDS[:5], repeat=2):
            for more in product(DEEDS[2:5], repeat=2):
                for keep in (True, False):
                    self.check([DEEDS[0], ("trial", list(rows), keep), *more], True)
                    self.check([("trial", [("trial", list(rows), True), *more], keep), DEEDS[1]], keep)

    def check(self, deeds, keep):
        book, plain = Book(), PlainBook()
        for one in (book, plain):
            getattr(one, "does", lambda deed: book.put(deed[1], deed[2]))(("put", "b", ["k"]))
        outcomes = []
        for call in (lambda: tried(book, deeds, keep=keep), lambda: plain.tries(deeds, keep)):
            try:
                outcomes.append(call())
            except (UnknownName, NothingToUndo) as error:
                outcomes.append(type(error))
        self.assertEqual(outcomes[1], outcomes[0], deeds)
        self.assertEqual(plain.held[-1], told(book))
        self.assertEqual(len(plain.held) - 1, many_deeds(book))

    def test_lists_are_new(self):
        book = Book()
        rows = tried(book, [("put", "a", ["x"]), ("put", "b", [])], keep=True)
        rows[1][0][1].append("y")
        rows[1].clear()
        self.assertEqual((["x"], [("a", ["x"])]), (book["a"], rows[0]))
        self.assertIsNot(rows[0], tried(book, [("put", "a", ["x"])])[0])

    def test_odd_books(self):
        self.assertIs(False, Liar() in Book())
        self.assertIs(False, Grudge() in Book())


if __name__ == "__main__":
    unittest.main()
