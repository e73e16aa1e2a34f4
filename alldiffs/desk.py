"""DESKS: a book and a question about it, asked in rows and answered in strings."""

from alldiffs.books import Book, do_deed, is_name
from alldiffs.common import common_numbers
from alldiffs.cores import core_of, sure_value
from alldiffs.costs import Costs
from alldiffs.difftexts import row_form
from alldiffs.errors import InvalidRow, NoQuestion
from alldiffs.settling import Settling
from alldiffs.shapes import is_numeral
from alldiffs.tables import least_cost

# In these rows NAME stands for whatever name, NUMBER for whatever number, and any other word for itself.
ROWS = (
    "drop NAME", "undo", "costs NUMBER NUMBER", "least NAME NAME", "count NAME NAME", "pair NAME NAME NUMBER NUMBER",
    "goes NAME NAME NUMBER", "partner NAME NAME NUMBER", "ask NAME NAME pair NUMBER NUMBER",
    "ask NAME NAME goes NUMBER", "ask NAME NAME partner NUMBER", "made NUMBER", "unmade NUMBER", "back",
    "merge NAME NAME NAME", "common NAME NAME NAME",
)


def stands_for(pattern, word):
    """Whether a word of one of these rows may be a word that is said."""
    if pattern == "NAME":
        return is_name(word)
    return is_numeral(word) if pattern == "NUMBER" else word == pattern


def is_said(pattern, words):
    """Whether one of these rows, told by its words, may be what is said."""
    return len(pattern) == len(words) and all([stands_for(one, word) for one, word in zip(pattern, words)])


def words_of_put(row):
    """The tuple ("put", name, lines) of such a row, None if it is no such row."""
    first, *lines = row.split("\n")
    words = first.split(" ")
    if len(words) != 2 or words[0] != "put" or not is_name(words[1]):
        return None
    if not all([line.startswith("|") for line in lines]):
        return None
    return ("put", words[1], [line[1:] for line in lines])


def words_of(row):
    """The tuple of the words of a row, the numbers among them as INTEGERS; for put its lines are the last word."""
    if not isinstance(row, str):
        raise InvalidRow(row)
    put, words = words_of_put(row), row.split(" ")
    if put is not None:
        return put
    if not any([is_said(pattern.split(" "), words) for pattern in ROWS]):
        raise InvalidRow(row)
    return tuple([int(word) if is_numeral(word) else word for word in words])


def opened(core):
    """What is told of what is open; core is a list of strings."""
    return " ".join(["open", *core])


def told_answer(readings, answer):
    """What is told of an ANSWER."""
    core = core_of(readings, answer)
    return opened([str(choice) for choice in core]) if core else str(sure_value(readings, answer))


def told_merge(merge):
    """What is told of a merge."""
    core = merge.core()
    if core:
        return opened([f"{number}.{choice}" for number, choice in core])
    return "\n".join(["sure", *row_form(merge.row()).split("\n")[:-1]])


def told_common(merge):
    """The two common numbers of a merge."""
    return " ".join([str(number) for number in common_numbers(merge)])


def told_of_book(book, words):
    """What is told of the texts of a book."""
    kind, first, second = words[0], words[1], words[2]
    if kind == "least":
        return str(least_cost(book[first], book[second], book.rates))
    if kind == "count":
        return str(book.readings(first, second).count())
    if kind == "merge":
        return told_merge(book.merge(first, second, words[3]))
    if kind == "common":
        return told_common(book.merge(first, second, words[3]))
    return told_answer(book.readings(first, second), (kind, *words[3:]))


class Desk:
    """A book of its own, and at most one question about two of its texts."""

    def __init__(self, book=None):
        self._book = Book() if book is None else book.copied()
        self._question = None

    def book(self):
        """A copy of the book."""
        return self._book.copied()

    def say(self, row):
        """The answer to a row."""
        words = words_of(row)
        if words[0] in ("put", "drop", "undo", "costs"):
            do_deed(self._book, ("rates", Costs(words[1], words[2])) if words[0] == "costs" else words)
            self._question = None
            return "ok"
        if words[0] in ("ask", "made", "unmade", "back"):
            self._ask(words)
            return told_answer(self._question.left, self._question.answer)
        return told_of_book(self._book, words)

    def _ask(self, words):
        """Asks a new question, or settles a choice of the one that there is, or undoes that."""
        if words[0] == "ask":
            self._question = Settling(self._book.readings(words[1], words[2]), words[3:])
        elif self._question is None:
            raise NoQuestion()
        elif words[0] == "back":
            self._question.undo()
        else:
            self._question.settle(words[1], made=words[0] == "made")

    def play(self, *rows):
        """Yields the answers to rows, each of which is said when its answer is asked for."""
        for row in rows:
            yield self.say(row)
