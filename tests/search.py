"""Plain searches over short texts, to which the answers of the package are compared."""

from itertools import product


class Liar:
    """Equal to everything, and of every truth."""

    def __eq__(self, other):
        return True

    def __hash__(self):
        return 0


class Grudge:
    """Can be compared with nothing."""

    def __eq__(self, other):
        raise TypeError("not with me")

    def __hash__(self):
        raise TypeError("nor so")

    def __len__(self):
        raise TypeError("nor this")

    def __repr__(self):
        raise TypeError("nor shown")


def odd_values():
    """Values of many kinds; none of them is a text, a diff, a place, a table or the like."""
    return [
        None, True, False, 0, 1, -1, "", "a", "a\n", b"", b"a", [1], ["a", None], ("a", 1), [[]], [()], ((),), ([],),
        {}, {"a": 1}, {1: (1, 1)}, set(), {1}, frozenset(), frozenset({"a"}), object(), Liar(), Grudge(), [Liar()],
        (Liar(),), (Grudge(),), (Liar(), Liar()), (Grudge(), Grudge()), (Liar(), Liar(), Liar()), int, len, range(2),
        iter(["a"]), {"a": 1}.keys(), (True, True), (False, False), (None, None), ("pair", 1), ((1, 1), 1),
        ((True, 1),), ((1, True),), ([1, 1],), (("a", "a"),), ["a\n"], [b"a"], bytearray(b"a"), ..., NotImplemented,
        ValueError("x"),
    ]


def texts_up_to(length, letters):
    """All texts of at most so many lines that are these letters."""
    return [list(lines) for many in range(length + 1) for lines in product(letters, repeat=many)]


def all_ways(old, new):
    """All ways of two texts: GO, PAIR, COME at each place, the earlier step first."""
    found = []

    def walk(way):
        i, j = way[-1]
        if (i, j) == (len(old), len(new)):
            found.append(tuple(way))
        if i < len(old):
            walk([*way, (i + 1, j)])
        if i < len(old) and j < len(new) and old[i] == new[j]:
            walk([*way, (i + 1, j + 1)])
        if j < len(new):
            walk([*way, (i, j + 1)])

    walk([(0, 0)])
    return found


def diff_of_way(way):
    """The pairs of the PAIR steps of a way."""
    return tuple(two for one, two in zip(way, way[1:]) if two == (one[0] + 1, one[1] + 1))


def all_diffs(old, new):
    """All diffs of two texts, by the lines that are left out or paired, one by one."""
    if not old or not new:
        return [()]
    found = [diff for diff in all_diffs(old[:-1], new)]
    for j in range(len(new), 0, -1):
        if new[j - 1] == old[-1]:
            found += [(*diff, (len(old), j)) for diff in all_diffs(old[:-1], new[: j - 1])]
    return found


def price(old, new, diff, going, coming):
    """The cost of a diff; going and coming are dicts, 1 for what is no key."""
    kept = [i for i, j in diff]
    paired = [j for i, j in diff]
    gone = sum(going.get(line, 1) for i, line in enumerate(old, 1) if i not in kept)
    return gone + sum(coming.get(line, 1) for j, line in enumerate(new, 1) if j not in paired)


def least_ways(old, new, going, coming):
    """All least ways of two texts, in their order."""
    ways = all_ways(old, new)
    costs = [price(old, new, diff_of_way(way), going, coming) for way in ways]
    return [way for way, cost in zip(ways, costs) if cost == min(costs)]
