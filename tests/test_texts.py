import unittest

from alldiffs import texts
from alldiffs.errors import InvalidText
from alldiffs.texts import all_pairs, common_ends, is_line, is_text
from tests.search import odd_values, texts_up_to

NO_TEXTS = [
    None, True, 0, "", "a", b"a", {}, {"a": 1}, {"a"}, object(), ["a", 1], ["a", None], ["a", True], ["a\n"], ["\n"],
    [b"a"], [["a"]], [("a",)], ("a", "b\n"), ["a"] * 61, ("a",) * 61, ["a"] * 59 + ["a\nb"], iter(["a"]), range(0),
]


class TextsTest(unittest.TestCase):
    def test_most(self):
        self.assertEqual(60, texts.MOST)
        self.assertIs(int, type(texts.MOST))

    def test_lines(self):
        for line in ("", "a", " ", "a b", "a" * 6000, "~!", "\\n", "<<<<"):
            self.assertIs(True, is_line(line))
        for value in ("\n", "a\n", "\na", "a\nb", b"a", b"", None, True, 1, ["a"], ("a",), ["a", "b"], [], {}):
            self.assertIs(False, is_line(value))

    def test_lines_for_any_value(self):
        for value in odd_values():
            self.assertIs(type(value) is str and "\n" not in value, is_line(value))

    def test_texts(self):
        for text in ([], (), ["a"], ("a",), ["", ""], ["a"] * 60, ("a",) * 60, ["a", "b", "a"]):
            self.assertIs(True, is_text(text))
        for value in NO_TEXTS:
            self.assertIs(False, is_text(value))

    def test_texts_for_any_value(self):
        for value in odd_values():
            self.assertIs(False, is_text(value))

    def test_all_pairs(self):
        self.assertEqual([(1, 2), (2, 1), (2, 3), (3, 2)], all_pairs(["a", "b", "a"], ("b", "a", "b")))
        self.assertEqual([], all_pairs([], ["a"]))
        self.assertEqual([], all_pairs(["a"], []))
        self.assertEqual([], all_pairs([], ()))
        self.assertEqual([], all_pairs(["a"], ["A"]))
        self.assertEqual([], all_pairs(["a"], ["a "]))
        self.assertEqual([(1, 1)], all_pairs([""], [""]))

    def test_all_pairs_of_long_texts(self):
        pairs = all_pairs(["a"] * 60, ["a"] * 60)
        self.assertEqual([(i, j) for i in range(1, 61) for j in range(1, 61)], pairs)

    def test_all_pairs_are_new(self):
        old, new = ["a"], ["a"]
        all_pairs(old, new).append("more")
        self.assertEqual([(1, 1)], all_pairs(old=old, new=new))
        self.assertEqual((["a"], ["a"]), (old, new))

    def test_common_ends(self):
        self.assertEqual((0, 0), common_ends([], []))
        self.assertEqual((0, 0), common_ends([], ["a"]))
        self.assertEqual((0, 0), common_ends(["a"], ["b"]))
        self.assertEqual((1, 0), common_ends(["a"], ["a"]))
        self.assertEqual((1, 0), common_ends(["a", "b"], ["a", "c"]))
        self.assertEqual((0, 1), common_ends(["b", "a"], ("c", "a")))
        self.assertEqual((1, 1), common_ends(["a", "x", "b"], ["a", "y", "z", "b"]))
        self.assertEqual((1, 0), common_ends(["a", "a"], ["a"]))
        self.assertEqual((1, 0), common_ends(["a"], ["a", "a"]))
        self.assertEqual((2, 1), common_ends(["a", "a", "a"], ["a", "a", "b", "a"]))
        self.assertEqual((60, 0), common_ends(["a"] * 60, ["a"] * 60))
        self.assertEqual((2, 2), common_ends(new=["p", "q", "r", "s", "t"], old=["p", "q", "s", "t"]))

    def test_common_ends_by_a_search(self):
        for old in texts_up_to(4, "ab"):
            for new in texts_up_to(3, "ab"):
                first = max(k for k in range(5) if old[:k] == new[:k] and k <= min(len(old), len(new)))
                rest, other = old[first:], new[first:]
                most = min(len(rest), len(other))
                last = max(k for k in range(most + 1) if rest[len(rest) - k:] == other[len(other) - k:])
                self.assertEqual((first, last), common_ends(old, new))

    def test_what_is_no_text_is_refused(self):
        for call in (all_pairs, common_ends):
            for value in NO_TEXTS + odd_values():
                with self.assertRaises(InvalidText) as caught:
                    call(value, [])
                self.assertIs(value, caught.exception.value)
                with self.assertRaises(InvalidText) as caught:
                    call((), value)
                self.assertIs(value, caught.exception.value)

    def test_old_is_refused_ahead_of_new(self):
        for call in (all_pairs, common_ends):
            with self.assertRaises(InvalidText) as caught:
                call(new="n", old="o")
            self.assertEqual("o", caught.exception.value)


if __name__ == "__main__":
    unittest.main()
