import unittest

from alldiffs.costs import Costs
from alldiffs.diffs import blocks_of, turned_over
from alldiffs.errors import Clashes, InvalidCosts, InvalidDiff, InvalidResolution, InvalidRow, InvalidText
from alldiffs.rows import (
    clashes, cost_together, is_row, line_fates, merged, resolved, swapped, text_of, token_origins,
)
from tests.search import Grudge, Liar, odd_values
from tests.test_knots import ABC, WHOLE, plain_kind, plain_knots, positions_of, refusing, some_merges

OWN = Costs(3, 5, {"a": (7, 2), "x": (1, 11)})
CLASH = ("clash", 1, 2, ("x",), ("y", "z"))
ROW = ("a", CLASH, "b", ("clash", 0, 60, (), ("p",)))
NO_CLASHES = [
    ("clash", 1, 2, ("x",)), ("clash", 1, 2, ("x",), ("y",), ()), ("Clash", 1, 2, (), ()), ("", 1, 2, (), ()),
    (None, 1, 2, (), ()), (b"clash", 1, 2, (), ()), ("clash", 2, 1, (), ()), ("clash", -1, 1, (), ()),
    ("clash", 0, 61, (), ()), ("clash", 61, 61, (), ()), ("clash", True, 1, (), ()), ("clash", 0, True, (), ()),
    ("clash", False, 1, (), ()), ("clash", None, 1, (), ()), ("clash", 0, "1", (), ()), ("clash", 1, 2, [], ()),
    ("clash", 1, 2, (), []), ("clash", 1, 2, ["x"], ()), ("clash", 1, 2, "x", ()), ("clash", 1, 2, (), None),
    ("clash", 1, 2, ("x\n",), ()), ("clash", 1, 2, (), (b"x",)), ("clash", 1, 2, ("x",) * 61, ()),
    ("clash", 1, 2, (), ("x",) * 61), ("clash", 1, 2, (None,), ()), ("clash", 1, 2, (), (("x",),)),
    ["clash", 1, 2, (), ()], ("clash", 1, 10 ** 25, (), ()), (Liar(), 1, 2, (), ()), (Grudge(), 1, 2, (), ()),
    ("clash", Liar(), 2, (), ()), ("clash", 1, Grudge(), (), ()), ("clash", 1, 2, Liar(), ()),
    ("clash", 1, 2, (Liar(),), ()), ("clash", 1, 2, (), (Grudge(),)), (), ("clash",), ("x", "y"),
]


def plain_row(base, one, two, diff_one, diff_two):
    """(tokens, origins, fates) of a merge, position by position."""
    versions = {1: (one, diff_one), 2: (two, diff_two)}
    starts, covered = {}, {}
    for knot in plain_knots(base, one, two, diff_one, diff_two):
        positions = set().union(*[positions_of(block) for block in knot[0] + knot[1]])
        starts[min(positions)] = knot
        covered.update({position: plain_kind(knot, one, two) for position in positions})
    tokens, origins = [], []
    for position in range(2 * len(base) + 1):
        i = (position + 1) // 2
        if position not in covered and position % 2:
            tokens.append(base[i - 1])
            origins.append(("base", i))
        if position in starts:
            told = knot_tokens(starts[position], base, versions)
            if covered[position] == "clash":
                told = [(told, ("clash", sum(1 for kind, *_ in origins if kind == "clash")))]
            tokens += [token for token, _ in told]
            origins += [origin for _, origin in told]
    lines = range(1, len(base) + 1)
    words = {None: "stands", "clash": "clash"}
    return tuple(tokens), origins, [words.get(covered.get(2 * i - 1), "gone") for i in lines]


def knot_tokens(knot, base, versions):
    """The tokens and origins of a knot; the bare token of a clash."""
    kind = plain_kind(knot, versions[1][0], versions[2][0])
    blocks = {1: knot[0], 2: knot[1]}
    come = {v: [j for _, _, c, d in blocks[v] for j in range(c + 1, d + 1)] for v in (1, 2)}
    if kind in ("one", "two"):
        v = 1 if kind == "one" else 2
        return [(versions[v][0][j - 1], (v, j)) for j in come[v]]
    if kind == "alike":
        return [(versions[1][0][j - 1], ("both", j, k)) for j, k in zip(come[1], come[2])]
    if kind == "going":
        return []
    a, b = min(told[0] for told in knot[0] + knot[1]), max(told[1] for told in knot[0] + knot[1])
    lines = []
    for v, (text, diff) in versions.items():
        mates = {j: i for i, j in diff}
        there = [j for j in range(1, len(text) + 1) if j in come[v] or a < mates.get(j, a) <= b]
        lines.append(tuple(text[j - 1] for j in there))
    return ("clash", a, b, *lines)


class MergedRows(unittest.TestCase):
    def test_the_examples(self):
        self.assertEqual((("clash", 0, 2, ("z",), ("y",)),), merged(["x", "y"], ["z"], ["y"], (), ((2, 1),)))
        args = (["x", "y"], ["y"], ["x", "y", "z"], ((2, 1),), ((1, 1), (2, 2)))
        self.assertEqual(("y", "z"), merged(*args))
        self.assertEqual(([("base", 2), (2, 3)], ["gone", "stands"]), (token_origins(*args), line_fates(*args)))

    def test_the_example_of_stage_seven(self):
        base, one, two, diff_two = ["a", "b", "a"], ["a"], ["a", "c", "b", "a"], ((1, 1), (2, 3), (3, 4))
        self.assertEqual(("a", "c"), merged(base, one, two, ((1, 1),), diff_two))
        clash = ("clash", 0, 2, (), ("a", "c", "b"))
        self.assertEqual((clash, "a"), merged(base, one, two, ((3, 1),), diff_two))
        self.assertEqual([("clash", 0), ("base", 3)], token_origins(base, one, two, ((3, 1),), diff_two))
        self.assertEqual(["clash", "clash", "stands"], line_fates(base, one, two, ((3, 1),), diff_two))
        self.assertEqual(["stands", "gone", "gone"], line_fates(base, one, two, ((1, 1),), diff_two))

    def test_by_a_search(self):
        origins = set()
        for merge in some_merges():
            row, told, fates = plain_row(*merge)
            self.assertEqual(row, merged(*merge))
            self.assertEqual(told, token_origins(*merge))
            self.assertEqual(fates, line_fates(*merge))
            self.assertIs(True, is_row(row))
            origins |= {origin[0] for origin in told}
        self.assertEqual({"base", 1, 2, "both", "clash"}, origins)

    def test_each_kind_of_knot(self):
        base = ["a", "b", "c", "d", "e"]
        one, diff_one = ["x", "a", "b", "y", "e", "q"], ((1, 2), (2, 3), (5, 5))
        two, diff_two = ["a", "p", "b", "y", "e", "r"], ((1, 1), (2, 3), (5, 5))
        args = (base, one, two, diff_one, diff_two)
        clash = ("clash", 5, 5, ("q",), ("r",))
        self.assertEqual(("x", "a", "p", "b", "y", "e", clash), merged(*args))
        self.assertEqual([
            (1, 1), ("base", 1), (2, 2), ("base", 2), ("both", 4, 4), ("base", 5), ("clash", 0),
        ], token_origins(*args))
        self.assertEqual(["stands", "stands", "gone", "gone", "stands"], line_fates(*args))

    def test_clashes_have_the_lines_that_are_kept(self):
        base = ["a", "b", "c", "d"]
        one, two = ["a", "x", "c", "d"], ["a", "y", "d"]
        clash = ("clash", 1, 3, ("x", "c"), ("y",))
        self.assertEqual(("a", clash, "d"), merged(base, one, two, ((1, 1), (3, 3), (4, 4)), ((1, 1), (4, 3))))
        self.assertEqual(["stands", "clash", "clash", "stands"], line_fates(
            base, one, two, ((1, 1), (3, 3), (4, 4)), ((1, 1), (4, 3))
        ))
        # What comes in a gap beside the knot, in a block of its own, is not in the clash.
        one, two = ["p", "c"], ["a", "x", "b", "c"]
        row = merged(ABC, ["c"], two, ((3, 1),), ((1, 1), (2, 3), (3, 4)))
        self.assertEqual((("clash", 0, 2, (), ("a", "x", "b")), "c"), row)
        two = ["q", "a", "x", "b", "c"]
        row = merged(ABC, ["c"], two, ((3, 1),), ((1, 2), (2, 4), (3, 5)))
        self.assertEqual(("q", ("clash", 0, 2, (), ("a", "x", "b")), "c"), row)
        two = ["a", "x", "b", "q", "c"]
        row = merged(ABC, ["c"], two, ((3, 1),), ((1, 1), (2, 3), (3, 5)))
        self.assertEqual((("clash", 0, 2, (), ("a", "x", "b")), "q", "c"), row)

    def test_several_clashes_are_numbered(self):
        one, two = ["x", "b", "y"], ["p", "b", "q"]
        args = (ABC, one, two, ((2, 2),), ((2, 2),))
        self.assertEqual((("clash", 0, 1, ("x",), ("p",)), "b", ("clash", 2, 3, ("y",), ("q",))), merged(*args))
        self.assertEqual([("clash", 0), ("base", 2), ("clash", 1)], token_origins(*args))
        self.assertEqual(["clash", "stands", "clash"], line_fates(*args))

    def test_texts_without_lines(self):
        self.assertEqual(((), [], [], 0), (
            merged([], [], [], (), ()), token_origins([], (), [], (), ()), line_fates([], [], [], (), ()),
            cost_together([], [], [], (), (), Costs()),
        ))
        self.assertEqual(("x", "y"), merged([], ["x", "y"], [], (), ()))
        self.assertEqual([("both", 1, 1)], token_origins([], ["x"], ("x",), (), ()))
        self.assertEqual((("clash", 0, 0, ("x",), ("y",)),), merged([], ["x"], ["y"], (), ()))
        self.assertEqual(((), ["gone"] * 3), (merged(ABC, [], [], (), ()), line_fates(ABC, [], [], (), ())))
        self.assertEqual((), merged(ABC, [], ABC, (), WHOLE))

    def test_one_that_changed_nothing(self):
        for base, one, two, diff_one, diff_two in some_merges():
            if blocks_of(base, one, diff_one) == []:
                self.assertEqual(tuple(two), merged(base, one, two, diff_one, diff_two))
            if blocks_of(base, two, diff_two) == []:
                self.assertEqual(tuple(one), merged(base, one, two, diff_one, diff_two))
            self.assertEqual(tuple(one), merged(base, one, one, diff_one, diff_one))

    def test_exchanged_and_turned_over(self):
        for base, one, two, diff_one, diff_two in list(some_merges())[::2]:
            args = (base, one, two, diff_one, diff_two)
            row, m = merged(*args), len(base)
            self.assertEqual(swapped(row), merged(base, two, one, diff_two, diff_one))
            over = (base[::-1], one[::-1], two[::-1], turned_over(base, one, diff_one), turned_over(base, two, diff_two))
            self.assertEqual(tuple(
                token if isinstance(token, str) else ("clash", m - token[2], m - token[1], token[3][::-1], token[4][::-1])
                for token in row[::-1]
            ), merged(*over))
            self.assertEqual(line_fates(*args)[::-1], line_fates(*over))
            self.assertEqual(cost_together(*args, OWN), cost_together(*over, costs=OWN))
            self.assertEqual(cost_together(*args, OWN), cost_together(base, two, one, diff_two, diff_one, OWN))

    def test_refused(self):
        for call in (merged, token_origins, line_fates):
            refusing(self, call)
        refusing(self, cost_together, "no costs")
        refusing(self, cost_together, Costs())

    def test_arguments_by_their_names_and_later_changes(self):
        base, one, two = ["x", "y"], ["y"], ["x", "y", "z"]
        args = {"diff_two": ((1, 1), (2, 2)), "diff_one": ((2, 1),), "two": two, "one": one, "base": base}
        row, origins, fates = merged(**args), token_origins(**args), line_fates(**args)
        self.assertEqual(2, cost_together(costs=Costs(), **args))
        origins.clear()
        fates.append("more")
        self.assertEqual([("base", 2), (2, 3)], token_origins(**args))
        self.assertEqual(["gone", "stands"], line_fates(**args))
        one.clear()
        self.assertEqual((("y", "z"), ["x", "y"], ["x", "y", "z"]), (row, base, two))

    def test_long_texts(self):
        base, one, two = ["a"] * 60, ["b"] * 60, ["c"] * 60
        self.assertEqual((("clash", 0, 60, tuple(one), tuple(two)),), merged(base, one, two, (), ()))
        self.assertEqual(60 + 120, cost_together(base, one, two, (), (), Costs()))
        self.assertEqual(60 + 60, cost_together(base, one, one, (), (), Costs()))
        self.assertEqual(180 * 999999, cost_together(base, one, two, (), (), Costs(999999, 999999)))
        self.assertEqual(["clash"] * 60, line_fates(base, one, two, (), ()))


class CostTogether(unittest.TestCase):
    def test_small_ones(self):
        one, two = ["a", "x", "c"], ["a", "x", "c"]
        diff = ((1, 1), (3, 3))
        self.assertEqual(3 + 11, cost_together(ABC, one, two, diff, diff, OWN))
        self.assertEqual(3 + 11 + 5, cost_together(ABC, one, ["a", "y", "c"], diff, diff, OWN))
        self.assertEqual(7 + 3, cost_together(ABC, ["c"], ["b", "c"], ((3, 1),), ((2, 1), (3, 2)), OWN))
        self.assertEqual(11 + 11 + 3 + 3, cost_together(ABC, ["a", "x", "c"], ["a", "x"], diff, ((1, 1),), OWN))

    def test_by_a_search(self):
        for base, one, two, diff_one, diff_two in some_merges():
            kept = {i for i, _ in diff_one} & {i for i, _ in diff_two}
            total = sum(OWN.going(base[i - 1]) for i in range(1, len(base) + 1) if i not in kept)
            for version, diff in ((one, diff_one), (two, diff_two)):
                paired = [j for _, j in diff]
                total += sum(OWN.coming(version[j - 1]) for j in range(1, len(version) + 1) if j not in paired)
            for knot in plain_knots(base, one, two, diff_one, diff_two):
                if plain_kind(knot, one, two) == "alike":
                    total -= sum(OWN.coming(line) for line in one[knot[0][0][2]:knot[0][0][3]])
            self.assertEqual(total, cost_together(base, one, two, diff_one, diff_two, OWN))

    def test_costs_refused_last(self):
        for value in odd_values():
            with self.assertRaises(InvalidCosts) as caught:
                cost_together(["a"], ["a"], [], ((1, 1),), (), value)
            self.assertEqual("costs", caught.exception.problem)
            self.assertIs(value, caught.exception.value)
        self.assertRaises(InvalidDiff, cost_together, ["a"], ["a"], [], ((1, 1),), ((1, 1),), None)
        self.assertRaises(InvalidText, cost_together, ["a"], ["a"], "no", ((1, 1),), ((1, 1),), None)


class Rows(unittest.TestCase):
    def refused(self, error, value, call, *args):
        with self.assertRaises(error) as caught:
            call(*args)
        told = next(iter(vars(caught.exception).values()))
        self.assertEqual(value, told)
        self.assertIs(type(value), type(told))

    def test_is_row_for_any_value(self):
        for value in (
            (), ("a",), ("", ""), ROW, (CLASH,) * 180, ("x",) * 180, (("clash", 0, 0, (), ()),),
            (("clash", 60, 60, ("x",) * 60, ("",) * 60),), ("clash",), ("clash", "a"),
        ):
            self.assertIs(True, is_row(value))
            self.assertIs(True, is_row(value=value))
        for value in self.no_rows():
            self.assertIs(False, is_row(value))

    def no_rows(self):
        odd = [value for value in odd_values() if value.__class__ is not tuple]
        return odd + [(value,) for value in odd if not isinstance(value, str)] + [
            ["a"], [], list(ROW), ("x",) * 181, (CLASH,) * 181, ("a\n",), ("a", 1), ("a", None), ("a", ["b"]), "a",
            ("a", b"b"), ("a", True), ("a", Liar()), ("a", Grudge()), {"a": 1}, CLASH, (ROW,), ((CLASH,),),
        ] + [(value,) for value in NO_CLASHES] + [("a", value, "b") for value in NO_CLASHES]

    def test_rows_refused(self):
        for value in self.no_rows():
            for call in (clashes, text_of, swapped, resolved, lambda row: resolved(row, "no", 5)):
                with self.assertRaises(InvalidRow) as caught:
                    call(value)
                self.assertIs(value, caught.exception.value)

    def test_clashes_and_text_of(self):
        self.assertEqual(([1, 3], [], [], [0]), (
            clashes(ROW), clashes(()), clashes(row=("clash", "b")), clashes((CLASH,))
        ))
        self.assertEqual((["a", "b"], [], ["clash"]), (text_of(("a", "b")), text_of(row=()), text_of(("clash",))))
        self.refused(Clashes, (1, 3), text_of, ROW)
        self.refused(Clashes, (0,), text_of, (CLASH,))

    def test_swapped(self):
        self.assertEqual(
            ("a", ("clash", 1, 2, ("y", "z"), ("x",)), "b", ("clash", 0, 60, ("p",), ())), swapped(row=ROW)
        )
        self.assertEqual(((), ("a",), ROW), (swapped(()), swapped(("a",)), swapped(swapped(ROW))))

    def test_resolved(self):
        row = (CLASH, "m")
        for side, lines in (
            ("one", ["x"]), ("two", ["y", "z"]), ("both", ["x", "y", "z"]), ("none", []), ([], []), ((), []),
            (["k", ""], ["k", ""]), (("one",), ["one"]), (["none"] * 70, ["none"] * 70),
        ):
            self.assertEqual([*lines, "m"], resolved(row, side))
        self.assertEqual(["a", "y", "z", "b", "p"], resolved(ROW, "two", "both"))
        self.assertEqual(["a", "q", "b"], resolved(ROW, ["q"], "one"))
        self.assertEqual(([], ["a"]), (resolved(()), resolved(("a",))))

    def test_sides_refused(self):
        for value in [value for value in odd_values() if value.__class__ not in (list, tuple) or not value] + [
            "One", "", "three", "one ", b"one", ["a\n"], [1], [None], (True,), {"one": 1}, 1, None, True, Liar(), Grudge(),
            [Liar()], (Grudge(),), [["a"]], (("a",),), range(0), {"a"}, CLASH,
        ]:
            self.refused(InvalidResolution, 0, resolved, ROW, value)
            self.refused(InvalidResolution, 0, resolved, ROW, value, "one", "one")
            self.refused(InvalidResolution, 1, resolved, ROW, "one", value)
            self.refused(InvalidResolution, 1, resolved, ROW, [], value, value, value)
            self.refused(InvalidResolution, 0, resolved, ("a",), value)
        self.refused(InvalidResolution, 2, resolved, ROW, "one", "two", "one")
        self.refused(InvalidResolution, 2, resolved, ROW, "one", "two", None, "one")
        self.refused(InvalidResolution, 0, resolved, ("a",), "one")
        self.refused(InvalidResolution, 0, resolved, (), [])
        self.refused(InvalidResolution, 1, resolved, ROW, "one")
        self.refused(InvalidResolution, 0, resolved, ROW)

    def test_lists_are_new(self):
        side = ["k"]
        told = resolved((CLASH,), side)
        told.append("more")
        self.assertEqual((["k"], ["k"]), (side, resolved((CLASH,), side)))
        text = text_of(("a",))
        text.clear()
        self.assertEqual(["a"], text_of(("a",)))
        clashes(ROW).clear()
        self.assertEqual([1, 3], clashes(ROW))

    def test_rows_of_merges_resolved(self):
        for base, one, two, diff_one, diff_two in list(some_merges())[::5]:
            row = merged(base, one, two, diff_one, diff_two)
            many = len(clashes(row))
            if many == 0:
                self.assertEqual(list(row), text_of(row))
            self.assertEqual(resolved(row, *["one"] * many), resolved(swapped(row), *["two"] * many))
            both = resolved(row, *["both"] * many)
            parts = [[token] if isinstance(token, str) else [*token[3], *token[4]] for token in row]
            self.assertEqual([line for part in parts for line in part], both)


if __name__ == "__main__":
    unittest.main()
