import unittest

from alldiffs.costs import Costs
from alldiffs.difftexts import (
    diff_form, pick_form, read_diff_form, read_pick_form, read_row_form, read_versions_form, row_form, versions_form,
)
from alldiffs.diffs import is_diff
from alldiffs.errors import InvalidDiff, InvalidForm, InvalidPick, InvalidRow, InvalidText, InvalidVersion
from alldiffs.mergecores import Merge
from alldiffs.rows import is_row
from tests.merges import TRIPLES, some_merges
from tests.search import Grudge, Liar, all_diffs, odd_values, texts_up_to
from tests.test_mergecores import MergeCase
from tests.test_rows import NO_CLASHES

# Lines that look like marks, signs, numbers or rows of a form.
LOOKS = [
    "", " ", "-", "+", "\\", "\\\\", "<<<<", "====", ">>>>", "<<<< 0 1", "<<<<<", "=====", ">>>> ", "\\<<<<", "\\a", "@", "@ 1",
    "@ 0", "0", "1 2", "- ", "+a", " a", "<<<", "|", "===", "a\\", " <<<<", "<<<< 61 61", "\\>>>>",
]
ROWS = [
    (), ("a",), tuple(LOOKS), (("clash", 0, 0, (), ()),), (("clash", 0, 60, ("a",), ()), "b"), ("", ("clash", 3, 12, ("", "a"), ("b",))),
    (("clash", 1, 1, tuple(LOOKS), tuple(LOOKS[::-1])), *LOOKS, ("clash", 5, 10, ("====",), (">>>>",))),
    ("x",) * 180, (("clash", 7, 7, ("a",) * 60, ("",) * 60),) * 3, (("clash", 2, 3, (), ("a",)),) * 180,
]
PICKS = [((), ()), ((0,), ()), ((), (5,)), ((0, 1, 2), (3, 10, 101)), ((10 ** 25,), (0, 9, 10))]
VERSIONS = [
    [[]], [["a"]], [[], []], [LOOKS, LOOKS[::-1]], [["@ 1"], ["@ 0", "@ 2"], []], [["a"] * 60] * 12, [[]] * 12, [["", ""], [""]],
]


def diffs_to_form():
    """(old, new, diff) of short texts, and of such with odd lines."""
    for old in texts_up_to(3, "ab")[::2]:
        for new in texts_up_to(3, "ab")[::3]:
            yield from [(old, new, diff) for diff in all_diffs(old, new)]
    yield LOOKS, LOOKS[::-1], ((1, len(LOOKS)),)
    yield LOOKS, LOOKS, tuple((k, k) for k in range(1, len(LOOKS) + 1))
    yield LOOKS, [], ()
    yield [], LOOKS, ()


def plain_diff(text):
    """(old, new, diff) of a text whose rows all have a sign, else None; it need not be a form."""
    old, new, diff = [], [], []
    for row in text.split("\n")[:-1]:
        if row[:1] not in (" ", "-", "+") or not row:
            return None
        if row[0] != "+":
            old.append(row[1:])
        if row[0] != "-":
            new.append(row[1:])
        if row[0] == " ":
            diff.append((len(old), len(new)))
    return old, new, tuple(diff)


def plain_row(text):
    """The row of a text in which each clash has its marks, else None; it need not be a form."""
    tokens, clash = [], []
    for row in text.split("\n")[:-1]:
        if row.startswith("<<<< ") and not clash:
            words = row.split(" ")[1:]
            if len(words) != 2 or not all(word.isdigit() for word in words):
                return None
            clash = ["clash", *map(int, words), ()]
        elif row == "====" and len(clash) == 4:
            clash.append(())
        elif row == ">>>>" and len(clash) == 5:
            tokens, clash = [*tokens, tuple(clash)], []
        elif clash:
            clash[-1] += (row[1:] if row.startswith("\\") else row,)
        else:
            tokens.append(row[1:] if row.startswith("\\") else row)
    return None if clash else tuple(tokens)


def plain_pick(text):
    """Tuples of the numbers of all rows, else None."""
    told = []
    for row in text.split("\n")[:-1]:
        words = [] if row == "-" else row.split(" ")
        if not all(word.isdigit() for word in words):
            return None
        told.append(tuple(map(int, words)))
    return tuple(told)


def plain_versions(text):
    """The texts that the rows with @ begin, else None."""
    rows, texts = text.split("\n")[:-1], []
    while rows:
        word = rows.pop(0)[2:]
        if not word.isdigit() or int(word) > len(rows):
            return None
        texts.append(rows[:int(word)])
        rows = rows[int(word):]
    return texts


# Of each form: what writes it, what reads it, a plain reader, and what may complete what has begun.
FORMS = [
    (lambda told: diff_form(*told), read_diff_form, plain_diff, [""]),
    (row_form, read_row_form, plain_row, ["", ">>>>\n", "====\n>>>>\n"]),
    (pick_form, read_pick_form, plain_pick, ["", "-\n", "-\n-\n"]),
    (versions_form, read_versions_form, plain_versions, ["\n" * many for many in range(61)] + ["@ 0\n"]),
]


def is_form(write, plain, text):
    """Whether a text is just what is written for what a plain reader reads in it."""
    told = plain(text) if text.endswith("\n") or text == "" else None
    try:
        return told is not None and write(told) == text
    except (InvalidText, InvalidRow, InvalidPick, InvalidVersion):
        return False


def first_flaw(write, plain, ends, text):
    """The number that InvalidForm has for a text, by the words of the document; None if it is a form."""
    rows = text.split("\n")
    for number in range(1, len(rows)):
        begun = "".join(row + "\n" for row in rows[:number])
        if not any(is_form(write, plain, begun + end) for end in ends):
            return number
    return None if rows[-1] == "" and is_form(write, plain, text) else len(rows)


def changed_texts(text):
    """Texts with a row left out, put twice, changed or exchanged, and without the last line feed."""
    rows = text.split("\n")[:-1]
    found = [text[:-1], text + "x", text + "\n", text + "@ 0\n", text + "-\n", " " + text, "\n" + text, text + "====\n", text + ">>>>\n"]
    for at in [*range(min(len(rows), 6)), *range(max(6, len(rows) - 4), len(rows))]:
        row = rows[at]
        for other in (
            [], [row, row], [row[1:]], [row + " "], [" " + row], ["-" + row], ["+" + row], ["\\" + row], ["0" + row], [row + "0"],
            [row.replace("1", "01")], [row.replace(" ", "  ")], ["@ 61"], ["@ 2"], ["<<<< 1 0"], ["<<<< 00 1"], ["<<<< 1 61"], ["====", row],
            [">>>>"], ["@"], [""], ["-"], [row, "@ 1"], ["<<<< 1 1"], ["<<<< 1 1", "====", ">>>>"], ["\\x"], ["\\\\x"], ["3 3"], ["7 x"],
        ):
            found.append("".join(told + "\n" for told in [*rows[:at], *other, *rows[at + 1:]]))
        found.append("".join(told + "\n" for told in [*rows[:at], *rows[at + 1:at + 2], row, *rows[at + 2:]]))
    return [told for told in found if told != text]


class Forms(MergeCase):
    def invalid(self, number, read, text):
        with self.assertRaises(InvalidForm) as caught:
            read(text)
        self.assertEqual(number, caught.exception.number)
        self.assertIs(int, type(caught.exception.number))

    def test_the_examples(self):
        self.assertEqual("-a\n b\n+c\n", diff_form(["a", "b"], ["b", "c"], ((2, 1),)))
        self.assertEqual((["a", "b"], ["b", "c"], ((2, 1),)), read_diff_form("-a\n b\n+c\n"))

    def test_small_ones(self):
        self.assertEqual("", diff_form(old=[], new=(), diff=()))
        self.assertEqual(([], [], ()), read_diff_form(text=""))
        self.assertEqual("-\n-- \n+\n+ +\n", diff_form(["", "- "], ["", " +"], ()))
        row = ("a", ("clash", 1, 12, ("<<<<", "x"), ("\\",)), "====x", " >>>>")
        self.assertEqual("a\n<<<< 1 12\n\\<<<<\nx\n====\n\\\\\n>>>>\n\\====x\n >>>>\n", row_form(row=row))
        self.assertEqual(("", (), ()), (row_form(()), read_row_form(""), read_row_form(text="")))
        self.assertEqual("<<<< 0 0\n====\n>>>>\n", row_form((("clash", 0, 0, (), ()),)))
        self.assertEqual(("-\n1 12\n", ((), (1, 12))), (pick_form(pick=((), (1, 12))), read_pick_form(text="-\n1 12\n")))
        self.assertEqual("@ 1\n@ 1\n@ 0\n", versions_form(versions=[["@ 1"], []]))
        self.assertEqual([["@ 1"], []], read_versions_form(text="@ 1\n@ 1\n@ 0\n"))

    def test_diffs_there_and_back(self):
        for old, new, diff in diffs_to_form():
            form = diff_form(old, new, diff)
            self.assertEqual((old, new, diff), read_diff_form(form))
            self.assertEqual((len(old) + len(new) - len(diff), form), (form.count("\n"), diff_form(tuple(old), tuple(new), diff)))

    def test_rows_there_and_back(self):
        for row in ROWS:
            self.assertEqual(row, read_row_form(row_form(row)))
        for plain in some_merges():
            for row in set(plain.rows.values()):
                self.assertEqual(row, read_row_form(row_form(row)))

    def test_picks_there_and_back(self):
        for pick in PICKS:
            self.assertEqual(pick, read_pick_form(pick_form(pick)))
        for texts in TRIPLES:
            merge = Merge(*[list(text) for text in texts], Costs())
            pick = (merge.readings(1).last(), merge.readings(2).last())
            self.assertEqual(pick, read_pick_form(pick_form(pick)))

    def test_versions_there_and_back(self):
        for versions in VERSIONS:
            form = versions_form(versions)
            self.assertEqual(versions, read_versions_form(form))
            self.assertEqual(form, versions_form(tuple(tuple(text) for text in versions)))

    def test_changed_forms(self):
        # Of the largest ones few rows are enough: whatever follows is tried behind each of them.
        clashes = (("clash", 1, 10, ("<<<<", "a"), ("\\",)), "====", "b", ("clash", 12, 12, (), (">>>>",)))
        rows = [row for row in ROWS if row_form(row).count("\n") < 40] + [clashes]
        versions = [told for told in VERSIONS if len(told) < 12 and len(told[0]) < 20] + [[["@ 1"] * 3, LOOKS[:9]]]
        told = [list(diffs_to_form())[::9] + [(LOOKS[:8], LOOKS[4:12], ((5, 1),))], rows, PICKS, versions]
        numbers = set()
        for (write, read, plain, ends), values in zip(FORMS, told):
            for value in values:
                texts = changed_texts(write(value))
                for text in texts[::1 if len(texts) < 150 else 2]:
                    number = first_flaw(write, plain, ends, text)
                    numbers.add(number)
                    if number is None:
                        self.assertEqual(text, write(read(text)))
                    else:
                        self.invalid(number, read, text)
        self.assertTrue({None, 1, 2, 3, 4} <= numbers)

    def test_the_bounds_of_texts(self):
        for sign in " -+":
            read_diff_form(f"{sign}a\n" * 60)
            self.invalid(61, read_diff_form, f"{sign}a\n" * 61)
            self.invalid(61, read_diff_form, f"{sign}a\n" * 61 + "x")
        self.assertEqual((["a"] * 60, ["b"] * 60, ()), read_diff_form("-a\n" * 60 + "+b\n" * 60))
        self.invalid(121, read_diff_form, "-a\n" * 60 + "+b\n" * 60 + " a\n")
        self.invalid(91, read_diff_form, "-a\n" * 30 + " a\n" * 30 + "+a\n" * 30 + "-a\n")
        self.assertEqual(60, len(read_versions_form("@ 60\n" + "a\n" * 60)[0]))
        self.invalid(1, read_versions_form, "@ 61\n" + "a\n" * 61)
        self.assertEqual([[]] * 12, read_versions_form("@ 0\n" * 12))
        self.invalid(13, read_versions_form, "@ 0\n" * 13)

    def test_the_bounds_of_rows(self):
        self.assertEqual(180, len(read_row_form("x\n" * 180)))
        self.invalid(181, read_row_form, "x\n" * 181)
        clash = "<<<< 0 60\n====\n>>>>\n"
        self.assertEqual(180, len(read_row_form(clash * 180)))
        self.invalid(541, read_row_form, clash * 181)
        self.invalid(541, read_row_form, clash * 180 + "x\n")
        self.assertEqual(60, len(read_row_form("<<<< 0 0\n" + "a\n" * 60 + "====\n" + "b\n" * 60 + ">>>>\n")[0][3]))
        self.invalid(62, read_row_form, "<<<< 0 0\n" + "a\n" * 61 + "====\n>>>>\n")
        self.invalid(63, read_row_form, "<<<< 0 0\n====\n" + "a\n" * 61 + ">>>>\n")
        for bounds in ("1 0", "0 61", "61 61", "00 1", "0 01", "0", "0 1 2", "0  1", " 0 1", "0 1 ", "-1 1", "a 1", "", "0 1x", "+0 1"):
            self.invalid(2, read_row_form, f"a\n<<<< {bounds}\n====\n>>>>\n")

    def test_what_is_missing(self):
        for read, text, number in (
            (read_row_form, "<<<< 0 1\n", 2), (read_row_form, "<<<< 0 1\na\n====\n", 4), (read_row_form, "<<<< 0 1\na\n====\nb", 4),
            (read_pick_form, "", 1), (read_pick_form, "-\n", 2), (read_pick_form, "-\n1", 2), (read_pick_form, "1 2", 1),
            (read_versions_form, "", 1), (read_versions_form, "@ 1\n", 2), (read_versions_form, "@ 2\na\n", 3), (read_versions_form, "@ 0", 1),
            (read_diff_form, " a", 1), (read_diff_form, " a\n b", 2), (read_row_form, "a", 1), (read_row_form, "<<<< 0 1", 1),
        ):
            self.invalid(number, read, text)

    def test_wrong_rows(self):
        for read, text, number in (
            (read_diff_form, "+a\n-b\n", 2), (read_diff_form, "+a\n b\n-c\n+d\n-e\n", 5), (read_diff_form, "a\n", 1), (read_diff_form, "\n", 1),
            (read_diff_form, " a\n\n", 2), (read_diff_form, " a\n*b\n c\n", 2), (read_row_form, "====\n", 1), (read_row_form, ">>>>\n", 1),
            (read_row_form, "\\a\n", 1), (read_row_form, "\\\n", 1), (read_row_form, "<<<<\n", 1), (read_row_form, "====x\n", 1),
            (read_row_form, "<<<< 0 1\n<<<< 0 1\n", 2), (read_row_form, "<<<< 0 1\n>>>>\n", 2), (read_row_form, "<<<< 0 1\n====\n====\n", 3),
            (read_row_form, "<<<< 0 1\n====x\n", 2), (read_row_form, "<<<< 0 1\n====\n>>>> \n", 3), (read_pick_form, "\n-\n", 1),
            (read_pick_form, "-\n-\n-\n", 3), (read_pick_form, "1 1\n-\n", 1), (read_pick_form, "2 1\n-\n", 1), (read_pick_form, "01\n-\n", 1),
            (read_pick_form, "1  2\n-\n", 1), (read_pick_form, "1 \n-\n", 1), (read_pick_form, "- -\n-\n", 1), (read_pick_form, "-1\n-\n", 1),
            (read_pick_form, "--\n-\n", 1), (read_pick_form, "0\nx\n", 2), (read_versions_form, "a\n", 1), (read_versions_form, "@ 01\na\n", 1),
            (read_versions_form, "@ 0\na\n", 2), (read_versions_form, "@\n", 1), (read_versions_form, "@  1\na\n", 1), (read_versions_form, "@1\na\n", 1),
            (read_versions_form, "@ 1 \na\n", 1), (read_versions_form, "@ -1\n", 1), (read_versions_form, "@ 1\na\nb\n", 3),
        ):
            self.invalid(number, read, text)

    def test_what_is_no_string(self):
        for value in odd_values():
            if not isinstance(value, str):
                for _, read, _, _ in FORMS:
                    self.invalid(0, read, value)
        self.invalid(0, read_diff_form, [" a\n"])
        self.invalid(0, read_row_form, b"a\n")

    def test_arguments_refused(self):
        for value in [["a\n"], ["a"] * 61, "a"] + odd_values():
            self.refused(InvalidText, value, diff_form, value, None, None)
            self.refused(InvalidText, value, diff_form, ["a"], value, None)
        for value in [((1, 2),), [(1, 1)], ((True, 1),), ((1, 1), (1, 1)), Liar(), Grudge()] + odd_values():
            self.refused(InvalidDiff, value, diff_form, ["a"], ["a"], value)
        for value in [["a"], ("a\n",), ("x",) * 181, "ab", 5, None] + [(token,) for token in NO_CLASHES] + [
            value for value in odd_values() if not is_row(value)
        ]:
            self.refused(InvalidRow, value, row_form, value)
        for value in [
            [(), ()], ((),), ((), (), ()), ([], ()), ((), []), ((True,), ()), ((), (False,)), ((-1,), ()), ((1, 1), ()), ((2, 1), ()), ((0, "1"), ()),
            ((None,), ()), (Liar(), ()), ((Liar(),), ()), ((), Grudge()), ((), (Grudge(),)), "", "-\n-\n",
        ] + odd_values():
            self.refused(InvalidPick, value, pick_form, value)

    def test_versions_refused(self):
        for value in [[], (), [[]] * 13, "ab", {}, {1: []}, 5, None, Liar(), Grudge(), set()]:
            self.refused(InvalidVersion, value, versions_form, value)
        for value in [["a\n"], ["a"] * 61, "abc", None, 5, [None], Liar(), Grudge(), {}]:
            self.refused(InvalidVersion, value, versions_form, [["a"], value, "no"])
            self.refused(InvalidVersion, value, versions_form, (value,))

    def test_what_is_read_is_new(self):
        for _ in range(2):
            told = read_versions_form("@ 1\na\n@ 0\n")
            self.assertEqual([["a"], []], told)
            told[0].clear()
            told.clear()
            old, new, _ = read_diff_form(" a\n")
            self.assertEqual((["a"], ["a"]), (old, new))
            old.clear()
        old, new, diff = read_diff_form(" a\n-b\n+c\n")
        self.assertIs(True, is_diff(old, new, diff))


if __name__ == "__main__":
    unittest.main()
