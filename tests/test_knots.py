import unittest

from alldiffs.diffs import blocks_of, turned_over
from alldiffs.errors import InvalidDiff, InvalidText
from alldiffs.knots import bounds_of, covered_by, kind_of, knots_of
from tests.search import Grudge, Liar, all_diffs, odd_values, texts_up_to

ABC = ["a", "b", "c"]
WHOLE = ((1, 1), (2, 2), (3, 3))


def plain_blocks(base, version, diff):
    """The blocks of a diff, by a look at what stands between its pairs."""
    rows = [(0, 0), *diff, (len(base) + 1, len(version) + 1)]
    told = [(i, k - 1, j, n - 1) for (i, j), (k, n) in zip(rows, rows[1:])]
    return [block for block in told if block[0] < block[1] or block[2] < block[3]]


def positions_of(block):
    """The set of the positions that a block covers: its lines, the gaps between, and both ends if something comes."""
    a, b, c, d = block
    return set(range(2 * a, 2 * b + 1)) if d > c else set(range(2 * a + 1, 2 * b))


def plain_knots(base, one, two, diff_one, diff_two):
    """(blocks of one, blocks of two) of each knot, by joining what meets until nothing changes."""
    knots = [({block}, set(), positions_of(block)) for block in plain_blocks(base, one, diff_one)]
    knots += [(set(), {block}, positions_of(block)) for block in plain_blocks(base, two, diff_two)]
    while True:
        meeting = [
            (knot, other) for k, knot in enumerate(knots) for other in knots[k + 1:] if knot[2] & other[2]
        ]
        if not meeting:
            break
        knot, other = meeting[0]
        knots = [each for each in knots if each is not knot and each is not other]
        knots.append(tuple(part | more for part, more in zip(knot, other)))
    knots = sorted(knots, key=lambda knot: min(knot[2]))
    return [(tuple(sorted(ones)), tuple(sorted(twos))) for ones, twos, _ in knots]


def plain_kind(knot, one, two):
    """The kind of a knot, by the words of the document."""
    ones, twos = knot
    if not any(d > c for _, _, c, d in ones + twos):
        return "going"
    if (len(ones), len(twos)) in ((1, 0), (0, 1)):
        return "one" if ones else "two"
    if len(ones) == 1 and len(twos) == 1:
        (a, b, c, d), (e, f, g, h) = ones + twos
        if (a, b) == (e, f) and list(one[c:d]) == list(two[g:h]):
            return "alike"
    return "clash"


def some_merges():
    """(base, one, two, diff_one, diff_two) with all diffs of short texts."""
    texts = texts_up_to(3, "ab")
    for base in texts[::2] + [list("aab"), list("abab")]:
        versions = [(version, diff) for version in texts[::3] + [list("ba"), list("abb")] for diff in all_diffs(base, version)]
        for k, (one, diff_one) in enumerate(versions):
            for two, diff_two in versions[k % 4::4]:
                yield base, one, two, diff_one, diff_two


def refusing(case, call, *more):
    """Checks the errors of a function of a base, two versions and their diffs, in the told order."""
    good = ["a"], ["a"], ["a", "b"], ((1, 1),), ((1, 1),)
    for at, error in enumerate((InvalidText, InvalidText, InvalidText, InvalidDiff, InvalidDiff)):
        wrong = [["a"] * 61, ["a\n"], [True]] if at < 3 else [((1, 2),), ((1, 1), (1, 1)), [(1, 1)], ((True, 1),), ((2, 1),)]
        for value in wrong + odd_values():
            args = [*good[:at], value, *["no", None, 5, {}][at:]]
            with case.assertRaises(error) as caught:
                call(*args, *more)
            case.assertIs(value, caught.exception.value)
    for value in (((1, 1), Liar()), ((1, 1), Grudge()), (Grudge(),)):
        for at in (3, 4):
            with case.assertRaises(InvalidDiff) as caught:
                call(*good[:at], value, *good[at + 1:], *more)
            case.assertIs(value, caught.exception.value)


class Knots(unittest.TestCase):
    def test_covered_by(self):
        for block, told in (
            ((0, 1, 0, 0), (1, 1)), ((0, 2, 0, 0), (1, 3)), ((3, 4, 2, 2), (7, 7)), ((0, 0, 0, 1), (0, 0)),
            ((2, 2, 1, 5), (4, 4)), ((0, 1, 0, 1), (0, 2)), ((1, 4, 3, 4), (2, 8)),
        ):
            self.assertEqual(told, covered_by(block))
        self.assertEqual((2, 8), covered_by(block=(1, 4, 3, 4)))

    def test_by_a_search(self):
        kinds = {}
        for merge in some_merges():
            base, one, two, _, _ = merge
            knots = knots_of(*merge)
            self.assertEqual(plain_knots(*merge), knots)
            for knot in knots:
                kind = kind_of(knot, one, two)
                self.assertEqual(plain_kind(knot, one, two), kind)
                blocks = knot[0] + knot[1]
                self.assertEqual((min(block[0] for block in blocks), max(block[1] for block in blocks)), bounds_of(knot))
                kinds[kind] = kinds.get(kind, 0) + 1
        self.assertEqual({"going", "one", "two", "alike", "clash"}, set(kinds))
        self.assertGreater(min(kinds.values()), 50)

    def test_blocks_that_touch_without_meeting(self):
        # One drops line 1, two drops line 2: the lines stand side by side.
        told = knots_of(["a", "b"], ["b"], ["a"], ((2, 1),), ((1, 1),))
        self.assertEqual([(((0, 1, 0, 0),), ()), ((), ((1, 2, 1, 1),))], told)
        # What comes in the gap behind line 1 does not meet the going of line 1.
        told = knots_of(["a", "b"], ["b"], ["a", "x", "b"], ((2, 1),), ((1, 1), (2, 3)))
        self.assertEqual([(((0, 1, 0, 0),), ()), ((), ((1, 1, 1, 2),))], told)
        # It meets a going of both lines around the gap.
        told = knots_of(["a", "b"], [], ["a", "x", "b"], (), ((1, 1), (2, 3)))
        self.assertEqual([(((0, 2, 0, 0),), ((1, 1, 1, 2),))], told)
        self.assertEqual(("clash", (0, 2)), (kind_of(told[0], [], ["a", "x", "b"]), bounds_of(told[0])))

    def test_a_replaced_line_covers_the_gaps_beside_it(self):
        told = knots_of(ABC, ["a", "x", "c"], ["a", "y", "b", "c"], ((1, 1), (3, 3)), ((1, 1), (2, 3), (3, 4)))
        self.assertEqual([(((1, 2, 1, 2),), ((1, 1, 1, 2),))], told)
        self.assertEqual((1, 2), bounds_of(knot=told[0]))
        told = knots_of(ABC, ["a", "x", "c"], ["a", "b", "y", "c"], ((1, 1), (3, 3)), ((1, 1), (2, 2), (3, 4)))
        self.assertEqual([(((1, 2, 1, 2),), ((2, 2, 2, 3),))], told)
        told = knots_of(ABC, ["a", "x", "c"], ["b", "c"], ((1, 1), (3, 3)), ((2, 1), (3, 2)))
        self.assertEqual([((), ((0, 1, 0, 0),)), (((1, 2, 1, 2),), ())], told)

    def test_two_that_come_in_the_same_gap(self):
        for lines, others, kind in ((["x"], ["x"], "alike"), (["x"], ["y"], "clash"), (["x", "y"], ["x"], "clash")):
            one, two = ["a", *lines, "b", "c"], ["a", *others, "b", "c"]
            diffs = [((1, 1), (2, 2 + len(told)), (3, 3 + len(told))) for told in (lines, others)]
            knots = knots_of(ABC, one, two, *diffs)
            self.assertEqual([(((1, 1, 1, 1 + len(lines)),), ((1, 1, 1, 1 + len(others)),))], knots)
            self.assertEqual((kind, (1, 1)), (kind_of(knot=knots[0], one=one, two=two), bounds_of(knots[0])))

    def test_alike_and_unlike_ones(self):
        diff = ((1, 1), (3, 3))
        for line, other, kind in (("x", "x", "alike"), ("x", "y", "clash")):
            one, two = ["a", line, "c"], ("a", other, "c")
            knots = knots_of(ABC, one, two, diff, diff)
            self.assertEqual([(((1, 2, 1, 2),), ((1, 2, 1, 2),))], knots)
            self.assertEqual(kind, kind_of(knots[0], one, two))
        # The same line comes, but other lines go.
        one, two = ["a", "x", "c"], ["a", "x"]
        knots = knots_of(ABC, one, two, diff, ((1, 1),))
        self.assertEqual([(((1, 2, 1, 2),), ((1, 3, 1, 2),))], knots)
        self.assertEqual("clash", kind_of(knots[0], one, two))
        # One has nothing but goings, the other one the same goings and a coming.
        knots = knots_of(ABC, ["a", "c"], ["a", "x", "c"], ((1, 1), (3, 2)), diff)
        self.assertEqual(["clash"], [kind_of(knot, ["a", "c"], ["a", "x", "c"]) for knot in knots])

    def test_going_alone(self):
        knots = knots_of(ABC, ["a"], ["c"], ((1, 1),), ((3, 1),))
        self.assertEqual([(((1, 3, 1, 1),), ((0, 2, 0, 0),))], knots)
        self.assertEqual(("going", (0, 3)), (kind_of(knots[0], ["a"], ["c"]), bounds_of(knots[0])))
        knots = knots_of(ABC, ["a", "b"], ABC, ((1, 1), (2, 2)), WHOLE)
        self.assertEqual(["going"], [kind_of(knot, ["a", "b"], ABC) for knot in knots])

    def test_a_knot_of_many_blocks(self):
        base = [str(k) for k in range(9)]
        one = ["x", "2", "y", "5", "z", "8"]
        two = ["0", "p", "3", "q", "6", "7", "8"]
        knots = knots_of(base, one, two, ((3, 2), (6, 4), (9, 6)), ((1, 1), (4, 3), (7, 5), (8, 6), (9, 7)))
        ones, twos = ((0, 2, 0, 1), (3, 5, 2, 3), (6, 8, 4, 5)), ((1, 3, 1, 2), (4, 6, 3, 4))
        self.assertEqual([(ones, twos)], knots)
        self.assertEqual(("clash", (0, 8)), (kind_of(knots[0], one, two), bounds_of(knots[0])))

    def test_no_knots(self):
        self.assertEqual([], knots_of(ABC, ABC, ABC, WHOLE, WHOLE))
        self.assertEqual([], knots_of([], [], [], (), ()))
        knots = knots_of([], ["x"], ["x"], (), ())
        self.assertEqual(([(((0, 0, 0, 1),), ((0, 0, 0, 1),))], "alike"), (knots, kind_of(knots[0], ["x"], ["x"])))
        knots = knots_of(ABC, [], [], (), ())
        self.assertEqual(([(((0, 3, 0, 0),), ((0, 3, 0, 0),))], "going"), (knots, kind_of(knots[0], [], [])))
        told = knots_of(diff_two=(), two=["x"], base=[], one=[], diff_one=())
        self.assertEqual([((), ((0, 0, 0, 1),))], told)

    def test_a_pair_of_blocks_with_the_same_bounds_is_a_knot_by_itself(self):
        found = 0
        for base, one, two, diff_one, diff_two in some_merges():
            for block in blocks_of(base, one, diff_one):
                for other in blocks_of(base, two, diff_two):
                    if block[:2] == other[:2] and block[2] < block[3] and other[2] < other[3]:
                        found += 1
                        self.assertIn(((block,), (other,)), knots_of(base, one, two, diff_one, diff_two))
        self.assertGreater(found, 100)

    def test_exchanged_and_turned_over(self):
        for base, one, two, diff_one, diff_two in list(some_merges())[::3]:
            knots = knots_of(base, one, two, diff_one, diff_two)
            exchanged = knots_of(base, two, one, diff_two, diff_one)
            self.assertEqual([(twos, ones) for ones, twos in knots], exchanged)
            over = knots_of(
                base[::-1], one[::-1], two[::-1], turned_over(base, one, diff_one), turned_over(base, two, diff_two)
            )
            m = len(base)
            self.assertEqual(
                [tuple(m - at for at in bounds_of(knot))[::-1] for knot in knots][::-1], [bounds_of(k) for k in over]
            )
            self.assertEqual([kind_of(knot, one, two) for knot in knots][::-1], [
                kind_of(knot, one[::-1], two[::-1]) for knot in over
            ])

    def test_refused(self):
        refusing(self, knots_of)

    def test_what_is_told_is_new(self):
        args = (ABC, ["a"], ["c"], ((1, 1),), ((3, 1),))
        knots_of(*args).clear()
        self.assertEqual(1, len(knots_of(*args)))
        self.assertEqual(["a", "b", "c"], ABC)

    def test_long_texts(self):
        base = ["a"] * 60
        knots = knots_of(base, ["b"] * 60, ["c"] * 60, (), ())
        self.assertEqual([(((0, 60, 0, 60),), ((0, 60, 0, 60),))], knots)
        one = ["a", "x"] * 30
        diff = tuple((2 * k - 1, 2 * k - 1) for k in range(1, 31))
        knots = knots_of(base, one, base, diff, tuple((k, k) for k in range(1, 61)))
        self.assertEqual([(((2 * k - 1, 2 * k, 2 * k - 1, 2 * k),), ()) for k in range(1, 31)], knots)


if __name__ == "__main__":
    unittest.main()
