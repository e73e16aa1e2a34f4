"""Merges of short texts by the words of the document: all picks listed, their rows, and their states gap by gap."""

from itertools import combinations

from alldiffs.costs import Costs
from alldiffs.mergecores import Merge
from tests.search import Plain
from tests.test_choices import costs_of
from tests.test_knots import plain_kind, plain_knots, plain_blocks, positions_of
from tests.test_rows import knot_tokens, plain_row

OWN = ({"a": 2, "b": 5, "c": 1}, {"a": 3, "b": 1, "c": 4})
TRIPLES = [
    ("", "", ""), ("", "a", ""), ("", "a", "b"), ("", "ab", "ab"), ("a", "", ""), ("ab", "", "ab"), ("ab", "ba", "ba"),
    ("aba", "a", "acba"), ("a", "aa", "aa"), ("a", "aa", "aaa"), ("aa", "a", "a"), ("aaa", "a", "aa"), ("aaa", "a", "a"),
    ("aaa", "aba", "aca"), ("aaa", "aba", "aba"), ("abab", "ab", "ba"), ("abab", "baba", "baba"), ("aab", "ab", "b"),
    ("xaya", "xa", "ya"), ("aabb", "ab", "ba"), ("aba", "ab", "ba"), ("axa", "a", "ya"), ("abc", "acb", "bac"),
    ("aa", "aba", "aca"), ("aa", "baa", "aab"), ("aaaa", "aa", "aa"), ("aaaa", "aca", "aa"), ("aaaa", "caac", "aada"),
    ("ab", "acb", "ab"), ("abab", "abab", "ab"), ("aabaa", "aba", "abba"), ("abaab", "aab", "bab"), ("aaa", "", "aba"),
    ("abcab", "cab", "abc"), ("aaa", "b", "a"), ("aaa", "ab", "a"), ("xxyy", "xzy", "xy"), ("axbxc", "axc", "axdxc"),
    ("abaa", "aa", "cabc"), ("aacaa", "aa", "acda"), ("aba", "abba", "abba"), ("babab", "bb", "bcbcb"),
]
NO_PICKS = [
    ((), ()), ((0,),), ((0,), (), ()), [(0,), ()], ([0], ()), ((0,), []), ((True,), ()), ((False,), ()), ((0, 0), ()),
    ((-1,), ()), ((9,), ()), ((0,), (9,)), (("0",), ()), (None, ()), ((0,), None), 0, None, "", ((0,), 0), {(0,): ()},
]


def order(row):
    """What rows are sorted by: a LINE is less than a clash."""
    return [(isinstance(token, tuple), token) for token in row]


class PlainMerge:
    """All picks of a merge that are left, with their diffs and rows."""

    def __init__(self, base, one, two, going=None, coming=None, settled=()):
        self.texts = (list(base), list(one), list(two))
        self.costs = costs_of(going, coming)
        self.versions = [Plain(base, text, going, coming) for text in (one, two)]
        self.settled = settled
        left = [[reading for reading in plain.readings() if self.has_settled(number, reading)]
                for number, plain in enumerate(self.versions, 1)]
        self.picks = [(first, second) for first in left[0] for second in left[1]]
        diffs = [{reading: plain.diff_of(reading) for reading in rows} for plain, rows in zip(self.versions, left)]
        self.diffs = {(first, second): (diffs[0][first], diffs[1][second]) for first, second in self.picks}
        self.rows = {pick: plain_row(*self.texts, *self.diffs[pick])[0] for pick in self.picks}

    def has_settled(self, number, reading):
        return all((choice in reading) is made for (version, choice), made in self.settled if version == number)

    def merge(self):
        """The same merge by the package."""
        merge = Merge(*self.texts, self.costs)
        for choice, made in self.settled:
            merge = merge.settled(choice, made)
        return merge

    def choices(self):
        """All choices of the merge, settled or not."""
        return [(number, k) for number, plain in enumerate(self.versions, 1) for k in range(len(plain.choices))]

    def beside(self, pick, choice):
        """The pick that has this choice, too."""
        number, k = choice
        return tuple(
            tuple(sorted((*reading, k))) if version == number else reading for version, reading in enumerate(pick, 1)
        )

    def parted(self, choice):
        """All tuples of two picks that differ in the choice alone, with unlike rows."""
        number, k = choice
        found = []
        for pick in self.picks:
            other = self.beside(pick, choice)
            if k not in pick[number - 1] and other in self.rows and self.rows[other] != self.rows[pick]:
                found.append((pick, other))
        return found

    def core(self):
        return tuple(choice for choice in self.choices() if self.parted(choice))

    def numbers(self, pick):
        """(clashes, cost together) by a look at each line."""
        base, one, two = self.texts
        diffs = self.diffs[pick]
        kept = {i for i, _ in diffs[0]} & {i for i, _ in diffs[1]}
        cost = sum(self.costs.going(line) for i, line in enumerate(base, 1) if i not in kept)
        for text, diff in zip((one, two), diffs):
            paired = [j for _, j in diff]
            cost += sum(self.costs.coming(line) for j, line in enumerate(text, 1) if j not in paired)
        for ones, twos in plain_knots(base, one, two, *diffs):
            if plain_kind((ones, twos), one, two) == "alike":
                cost -= sum(self.costs.coming(line) for line in one[ones[0][2]:ones[0][3]])
        return sum(isinstance(token, tuple) for token in self.rows[pick]), cost

    def common_numbers(self):
        return min(self.numbers(pick) for pick in self.picks)

    def common_rows(self):
        least = self.common_numbers()
        return sorted({self.rows[pick] for pick in self.picks if self.numbers(pick) == least}, key=order)

    def steps(self):
        """A dict from each state to a dict from the chosen nodes of its steps to (tokens, state)."""
        found = {}
        for pick in self.picks:
            for state, chosen, tokens, behind in plain_walk(*self.texts, *self.diffs[pick]):
                found.setdefault(state, {})[chosen] = (tokens, behind)
        return found


def plain_part(gap, row):
    """The part of a version with these nodes at a gap, and the node that is chosen there, None for one under way."""
    for node, behind in zip(row, row[1:]):
        if node[0] == gap:
            return node, behind
        if node[0] < gap < behind[0]:
            return (node, behind), None


def plain_knot(gap, texts, diffs, knots):
    """What a state at a gap tells of the knot of the line ahead of it."""
    for ones, twos in knots:
        blocks = [(0, block) for block in ones] + [(1, block) for block in twos]
        positions = set().union(*[positions_of(block) for _, block in blocks])
        if 2 * gap - 1 in positions:
            begun = [(version, block) for version, block in blocks if block[0] < gap]
            a = min(block[0] for _, block in begun)
            counts = []
            for version, (text, diff) in enumerate(zip(texts[1:], diffs)):
                kept = sum(1 for i, _ in diff if i <= a)
                ahead = [block for block in plain_blocks(texts[0], text, diff) if block[1] <= a]
                counts.append(kept + sum(d - c for _, _, c, d in set(ahead) - {block for _, block in blocks}))
            came = any(d > c for _, (_, _, c, d) in begun)
            return (a, *counts, came, plain_shape(texts, begun))
    return None


def plain_shape(texts, begun):
    """The shape of a knot of these tuples (version, block)."""
    if len(begun) == 1:
        return "one" if begun[0][0] == 0 else "two"
    if sorted(version for version, _ in begun) == [0, 1]:
        (_, one), (_, two) = sorted(begun)
        if one[:2] == two[:2] and texts[1][one[2]:one[3]] == texts[2][two[2]:two[3]]:
            return "alike"
    return "mixed"


def plain_walk(base, one, two, diff_one, diff_two):
    """(state, chosen nodes, tokens, the state behind) of each gap."""
    texts, diffs = (base, one, two), (diff_one, diff_two)
    rows = [[(0, 0), *diff, (len(base) + 1, len(text) + 1)] for text, diff in zip((one, two), diffs)]
    knots = plain_knots(base, one, two, diff_one, diff_two)
    covered = {position: knot for knot in knots for block in knot[0] + knot[1] for position in positions_of(block)}
    versions = {1: (one, diff_one), 2: (two, diff_two)}
    states, told = [], []
    for gap in range(len(base) + 1):
        parts, chosen = zip(*[plain_part(gap, row) for row in rows])
        states.append((gap, *parts, plain_knot(gap, texts, diffs, knots) if gap else None))
        tokens = []
        for last in (2 * gap - 1, 2 * gap):
            for knot in knots:
                if max(position for position in covered if covered[position] == knot) == last:
                    written = knot_tokens(knot, base, versions)
                    tokens += [written] if plain_kind(knot, one, two) == "clash" else [token for token, _ in written]
        if gap < len(base) and 2 * gap + 1 not in covered:
            tokens.append(base[gap])
        told.append((tuple(node for node in chosen if node is not None), tuple(tokens)))
    return [(state, *step, behind) for state, step, behind in zip(states, told, [*states[1:], None])]


def some_merges():
    """PlainMerges of short texts, with nothing settled."""
    for base, one, two in TRIPLES:
        yield PlainMerge(base, one, two)
    for base, one, two in TRIPLES[::4]:
        yield PlainMerge(base, one, two, *OWN)
    for base, one, two in TRIPLES[7::6]:
        yield PlainMerge(base, two, one)


def settled_merges():
    """PlainMerges of short texts, with nothing settled, and with one or two choices settled."""
    for at, plain in enumerate(some_merges()):
        yield plain
        choices = plain.choices()
        told = [((choice, made),) for choice in choices for made in (True, False)]
        told += [((one, True), (other, False)) for one, other in combinations(choices, 2)]
        for pairs in told[at % 3::3][:6]:
            left = PlainMerge(*plain.texts, *going_and_coming(plain), settled=pairs)
            if left.picks:
                yield left


def going_and_coming(plain):
    return ({}, {}) if plain.costs == Costs() else OWN
