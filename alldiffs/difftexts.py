"""TEXT FORMS of diffs, rows, picks and versions, and how they are read."""

from alldiffs.errors import InvalidForm, InvalidPick, InvalidVersion
from alldiffs.rows import MOST_TOKENS, check_row, is_clash
from alldiffs.scripts import diff_of, is_script, script_of, texts_of
from alldiffs.shapes import is_list, is_numeral, is_tuple, is_whole
from alldiffs.texts import MOST, is_text

MOST_VERSIONS = 12
SIGNS = {"keep": " ", "go": "-", "come": "+"}
WORDS = {" ": "keep", "-": "go", "+": "come"}
MARKS = ("<<<<", "====", ">>>>", "\\")


def form_of(rows):
    """The form that has these rows."""
    return "".join([f"{row}\n" for row in rows])


def read_by(reader, text):
    """What a reader tells of a form, of which it takes one row after the other."""
    if not isinstance(text, str):
        raise InvalidForm(0)
    *rows, rest = text.split("\n")
    for number, row in enumerate(rows, start=1):
        if not reader.takes(row):
            raise InvalidForm(number)
    if rest != "" or not reader.is_done():
        raise InvalidForm(len(rows) + 1)
    return reader.told()


class DiffReader:
    """Reads the rows of a DIFF FORM."""

    def __init__(self):
        self._entries = []

    def takes(self, row):
        """Whether a row may stand next; then it is taken."""
        word = WORDS.get(row[:1])
        if word is None or (word == "go" and self._entries and self._entries[-1][0] == "come"):
            return False
        self._entries.append((word, row[1:]))
        return is_script(self._entries)

    def is_done(self):
        """Whether the form may end here."""
        return True

    def told(self):
        """The tuple (old, new, diff)."""
        old, new = texts_of(self._entries)
        return (old, new, diff_of(self._entries))


def diff_form(old, new, diff):
    """The DIFF FORM of a DIFF."""
    return form_of([SIGNS[word] + line for word, line in script_of(old, new, diff)])


def read_diff_form(text):
    """The tuple (old, new, diff) of a DIFF FORM."""
    return read_by(DiffReader(), text)


def is_marked(row):
    """Whether a row of a ROW FORM, or a LINE, begins like one that is no LINE."""
    return any([row.startswith(mark) for mark in MARKS])


def line_row(line):
    """The row of a ROW FORM for a LINE."""
    return "\\" + line if is_marked(line) else line


def is_line_row(row):
    """Whether a row of a ROW FORM is that of some LINE."""
    return row.startswith("\\") == is_marked(row.removeprefix("\\"))


def clash_rows(token):
    """The rows of a ROW FORM for a clash."""
    _, a, b, ones, twos = token
    ones, twos = [line_row(line) for line in ones], [line_row(line) for line in twos]
    return [f"<<<< {a} {b}", *ones, "====", *twos, ">>>>"]


def bounds_told(row):
    """The tuple (a, b) of a row with which a clash begins, None if the row is not such a one."""
    words = row.split(" ")
    if len(words) != 3 or words[0] != "<<<<" or not is_numeral(words[1]) or not is_numeral(words[2]):
        return None
    a, b = int(words[1]), int(words[2])
    return (a, b) if a <= b <= MOST else None


class RowReader:
    """Reads the rows of a ROW FORM."""

    def __init__(self):
        self._tokens = []
        self._bounds = None
        self._sides = []

    def takes(self, row):
        """Whether a row may stand next; then it is taken."""
        if is_line_row(row):
            return self._takes_line(row.removeprefix("\\"))
        if row == "====" and len(self._sides) == 1:
            self._sides.append([])
            return True
        if row == ">>>>" and len(self._sides) == 2:
            self._tokens.append(("clash", *self._bounds, *[tuple(side) for side in self._sides]))
            self._sides = []
            return True
        return self._takes_bounds(row)

    def _takes_line(self, line):
        lines, most = (self._sides[-1], MOST) if self._sides else (self._tokens, MOST_TOKENS)
        if len(lines) == most:
            return False
        lines.append(line)
        return True

    def _takes_bounds(self, row):
        self._bounds = bounds_told(row)
        if self._bounds is None or self._sides or len(self._tokens) == MOST_TOKENS:
            return False
        self._sides = [[]]
        return True

    def is_done(self):
        """Whether the form may end here."""
        return self._sides == []

    def told(self):
        """The ROW."""
        return tuple(self._tokens)


def row_form(row):
    """The ROW FORM of a ROW."""
    check_row(row)
    return form_of([told for token in row for told in (clash_rows(token) if is_clash(token) else [line_row(token)])])


def read_row_form(text):
    """The ROW of a ROW FORM."""
    return read_by(RowReader(), text)


def is_rising_from_zero(value):
    """Whether any value is a sorted tuple of different INTEGERS from 0 on."""
    if not isinstance(value, tuple) or not all([is_whole(number) and number >= 0 for number in value]):
        return False
    return all([one < other for one, other in zip(value, value[1:])])


class PickReader:
    """Reads the rows of a PICK FORM."""

    def __init__(self):
        self._readings = []

    def takes(self, row):
        """Whether a row may stand next; then it is taken."""
        words = [] if row == "-" else row.split(" ")
        if len(self._readings) == 2 or not all([is_numeral(word) for word in words]):
            return False
        self._readings.append(tuple([int(word) for word in words]))
        return is_rising_from_zero(self._readings[-1])

    def is_done(self):
        """Whether the form may end here."""
        return len(self._readings) == 2

    def told(self):
        """The pick."""
        return tuple(self._readings)


def pick_form(pick):
    """The PICK FORM of a pick."""
    if not is_tuple(pick, 2) or not all([is_rising_from_zero(reading) for reading in pick]):
        raise InvalidPick(pick)
    return form_of([" ".join([str(choice) for choice in reading]) if reading else "-" for reading in pick])


def read_pick_form(text):
    """The pick of a PICK FORM."""
    return read_by(PickReader(), text)


class VersionsReader:
    """Reads the rows of a VERSIONS FORM."""

    def __init__(self):
        self._texts = []
        self._missing = 0

    def takes(self, row):
        """Whether a row may stand next; then it is taken."""
        if self._missing > 0:
            self._texts[-1].append(row)
            self._missing -= 1
            return True
        words = row.split(" ")
        if len(self._texts) == MOST_VERSIONS or len(words) != 2 or words[0] != "@" or not is_numeral(words[1]):
            return False
        self._texts.append([])
        self._missing = int(words[1])
        return self._missing <= MOST

    def is_done(self):
        """Whether the form may end here."""
        return self._texts != [] and self._missing == 0

    def told(self):
        """The list of the texts."""
        return self._texts


def versions_form(versions):
    """The VERSIONS FORM of one to twelve TEXTS."""
    if not is_list(versions):
        raise InvalidVersion(versions)
    for text in versions:
        if not is_text(text):
            raise InvalidVersion(text)
    if not 1 <= len(versions) <= MOST_VERSIONS:
        raise InvalidVersion(versions)
    return form_of([row for text in versions for row in [f"@ {len(text)}", *text]])


def read_versions_form(text):
    """The list of the texts of a VERSIONS FORM."""
    return read_by(VersionsReader(), text)
