"""BOOKS: texts by names, with deeds that are undone and tried."""

from alldiffs.costs import Costs, check_costs
from alldiffs.errors import InvalidName, NothingToUndo, UnknownName
from alldiffs.mergecores import Merge
from alldiffs.readings import Readings
from alldiffs.texts import check_texts

LETTERS = "abcdefghijklmnopqrstuvwxyz"
MOST_LETTERS = 12


def is_name(value):
    """Whether any value is a NAME."""
    if not isinstance(value, str) or not 1 <= len(value) <= MOST_LETTERS:
        return False
    return all([letter in LETTERS for letter in value])


class Trial:
    """How a book stood where a trial began, and whether what is done in it is kept."""

    def __init__(self, texts_and_rates, past, around):
        self.begun_with = texts_and_rates
        self.begun_past = past
        self.around = around
        self.kept = None

    def keep(self):
        """What is done and not undone in the trial stays, as a single deed, if no error ends it."""
        self.kept = True


class Ledger:
    """What a book holds, how it stood ahead of each deed that can be undone, and the innermost trial.

    The texts and the costs are never changed, but replaced. The past is None or a tuple: what the book held ahead of
    the last deed, and the past of then.
    """

    def __init__(self, texts, rates):
        self.now = (texts, rates)
        self.past = None
        self.innermost = None

    def does(self, texts, rates):
        """A deed, behind which the book holds this."""
        self.past = (self.now, self.past)
        self.now = (texts, rates)

    def undo(self):
        """Undoes the last deed."""
        if self.past is None:
            raise NothingToUndo()
        self.now, self.past = self.past


class Trying:
    """The context of a trial."""

    def __init__(self, ledger):
        self._ledger = ledger

    def __enter__(self):
        ledger = self._ledger
        ledger.innermost = Trial(ledger.now, ledger.past, ledger.innermost)
        # What was done ahead of the trial is not undone within it.
        ledger.past = None
        return ledger.innermost

    def __exit__(self, kind, value, trace):
        if kind is not None or self._ledger.innermost.kept is None:
            self._ledger.now = self._ledger.innermost.begun_with
            self._ledger.past = self._ledger.innermost.begun_past
        elif self._ledger.past is None:
            self._ledger.past = self._ledger.innermost.begun_past
        else:
            self._ledger.past = (self._ledger.innermost.begun_with, self._ledger.innermost.begun_past)
        self._ledger.innermost = self._ledger.innermost.around


class Book:
    """TEXTS by NAMES, and the costs for all of them."""

    def __init__(self, costs=None):
        if costs is not None:
            check_costs(costs)
        self._ledger = Ledger({}, Costs() if costs is None else costs)

    def copied(self):
        """A Book with the same texts and costs, without deeds to undo."""
        book = Book()
        book._ledger = Ledger(self._ledger.now[0], self._ledger.now[1])
        return book

    def put(self, name, lines):
        """Puts a text under a name."""
        if not is_name(name):
            raise InvalidName(name)
        check_texts(lines)
        self._ledger.does({**self._ledger.now[0], name: tuple(lines)}, self.rates)

    def drop(self, name):
        """Drops the text of a name."""
        self._check_known(name)
        texts = self._ledger.now[0]
        self._ledger.does({other: texts[other] for other in texts if other != name}, self.rates)

    def undo(self):
        """Undoes the last deed."""
        self._ledger.undo()

    @property
    def rates(self):
        """The costs."""
        return self._ledger.now[1]

    @rates.setter
    def rates(self, value):
        check_costs(value)
        self._ledger.does(self._ledger.now[0], value)

    def _check_known(self, name):
        if name not in self:
            raise UnknownName(name)

    def __getitem__(self, name):
        self._check_known(name)
        return list(self._ledger.now[0][name])

    def __iter__(self):
        raise TypeError("a book has no order: see names()")

    def __contains__(self, name):
        return isinstance(name, str) and name in self._ledger.now[0]

    def __len__(self):
        return len(self._ledger.now[0])

    def names(self):
        """The sorted list of the names."""
        return sorted(self._ledger.now[0])

    def readings(self, old, new):
        """The Readings of the texts of two names."""
        return Readings(self[old], self[new], self.rates)

    def merge(self, base, one, two):
        """The Merge of the texts of three names."""
        return Merge(self[base], self[one], self[two], self.rates)

    def trial(self):
        """A context at whose end the book is as it was, but for what is kept."""
        return Trying(self._ledger)

    def __eq__(self, other):
        return isinstance(other, Book) and self._ledger.now == other._ledger.now


def do_deed(book, deed):
    """Does one of the deeds of tried."""
    kind = deed[0]
    if kind == "put":
        book.put(deed[1], deed[2])
    elif kind == "drop":
        book.drop(deed[1])
    elif kind == "rates":
        book.rates = deed[1]
    elif kind == "undo":
        book.undo()
    else:
        tried(book, deed[1], keep=deed[2])


def tried(book, deeds, *, keep=False):
    """Does deeds within a trial of a book; the list of its texts by their names behind each of them."""
    told = []
    with book.trial() as trial:
        for deed in deeds:
            do_deed(book, deed)
            told.append([(name, book[name]) for name in book.names()])
        if keep is True:
            trial.keep()
    return told
