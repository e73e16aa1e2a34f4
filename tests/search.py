"""Plain searches over short texts, to which the answers of the package are compared."""

from itertools import combinations, product


class Liar:
    """Equal to everything, and of every truth."""

    def __eq__(self, other):
        return True

    def __hash__(self):
        return 0


class Grudge:
    """Can be compared with nothing."""

    def __eq__(self, other):
        raise TypeError("not with me")

    def __hash__(self):
        raise TypeError("nor so")

    def __len__(self):
        raise TypeError("nor this")

    def __repr__(self):
        raise TypeError("nor shown")


def odd_values():
    """Values of many kinds; none of them is a text, a diff, a place, a table or the like."""
    return [
        None, True, False, 0, 1, -1, "", "a", "a\n", b"", b"a", [1], ["a", None], ("a", 1), [[]], [()], ((),), ([],),
        {}, {"a": 1}, {1: (1, 1)}, set(), {1}, frozenset(), frozenset({"a"}), object(), Liar(), Grudge(), [Liar()],
        (Liar(),), (Grudge(),), (Liar(), Liar()), (Grudge(), Grudge()), (Liar(), Liar(), Liar()), int, len, range(2),
        iter(["a"]), {"a": 1}.keys(), (True, True), (False, False), (None, None), ("pair", 1), ((1, 1), 1),
        ((True, 1),), ((1, True),), ([1, 1],), (("a", "a"),), ["a\n"], [b"a"], bytearray(b"a"), ..., NotImplemented,
        ValueError("x"),
    ]


def texts_up_to(length, letters):
    """All texts of at most so many lines that are these letters."""
    return [list(lines) for many in range(length + 1) for lines in product(letters, repeat=many)]


def all_ways(old, new):
    """All ways of two texts: GO, PAIR, COME at each place, the earlier step first."""
    found = []

    def walk(way):
        i, j = way[-1]
        if (i, j) == (len(old), len(new)):
            found.append(tuple(way))
        if i < len(old):
            walk([*way, (i + 1, j)])
        if i < len(old) and j < len(new) and old[i] == new[j]:
            walk([*way, (i + 1, j + 1)])
        if j < len(new):
            walk([*way, (i, j + 1)])

    walk([(0, 0)])
    return found


def diff_of_way(way):
    """The pairs of the PAIR steps of a way."""
    return tuple(two for one, two in zip(way, way[1:]) if two == (one[0] + 1, one[1] + 1))


def all_diffs(old, new):
    """All diffs of two texts, by the lines that are left out or paired, one by one."""
    if not old or not new:
        return [()]
    found = [diff for diff in all_diffs(old[:-1], new)]
    for j in range(len(new), 0, -1):
        if new[j - 1] == old[-1]:
            found += [(*diff, (len(old), j)) for diff in all_diffs(old[:-1], new[: j - 1])]
    return found


def price(old, new, diff, going, coming):
    """The cost of a diff; going and coming are dicts, 1 for what is no key."""
    kept = [i for i, j in diff]
    paired = [j for i, j in diff]
    gone = sum(going.get(line, 1) for i, line in enumerate(old, 1) if i not in kept)
    return gone + sum(coming.get(line, 1) for j, line in enumerate(new, 1) if j not in paired)


def least_ways(old, new, going, coming):
    """All least ways of two texts, in their order."""
    ways = all_ways(old, new)
    costs = [price(old, new, diff_of_way(way), going, coming) for way in ways]
    return [way for way, cost in zip(ways, costs) if cost == min(costs)]


class Plain:
    """The web, the faces, the choices and the readings of two short texts, by the words of the document."""

    def __init__(self, old, new, going=None, coming=None):
        self.old, self.new = list(old), list(new)
        self.ways = least_ways(self.old, self.new, going or {}, coming or {})
        self.onward = {}
        for way in self.ways:
            for place, other in zip(way, way[1:]):
                self.onward.setdefault(place, set()).add(other)
        self.onward[(len(old), len(new))] = set()
        for place, others in self.onward.items():
            i, j = place
            self.onward[place] = [other for other in ((i + 1, j), (i + 1, j + 1), (i, j + 1)) if other in others]
        self.faces = sorted(self.all_faces(), key=lambda face: (face[0][0], face[0][-1], face[0]))
        self.choices = [face for face in self.faces if not self.is_blank(face)]
        self.ahead = self.all_ahead()
        self.found = None

    def all_faces(self):
        for place, others in self.onward.items():
            for first, second in zip(others, others[1:]):
                upper, lower = self.side([place, first], -1), self.side([place, second], 0)
                end = next(spot for spot in upper[1:] if spot in lower)
                yield (tuple(upper[:upper.index(end) + 1]), tuple(lower[:lower.index(end) + 1]))

    def side(self, places, which):
        while self.onward[places[-1]]:
            places.append(self.onward[places[-1]][which])
        return places

    def is_blank(self, face):
        return all(len(side) == 3 and not diff_of_way(side) for side in face)

    def all_ahead(self):
        """For each face the set of all faces ahead of it."""
        ahead = {
            face: {other for other in self.faces if set(steps_of(other[1])) & set(steps_of(face[0]))}
            for face in self.faces
        }
        for middle in self.faces:
            for face in self.faces:
                if middle in ahead[face]:
                    ahead[face] |= ahead[middle]
        return ahead

    def choices_ahead(self, choice):
        return tuple(k for k, face in enumerate(self.choices) if face in self.ahead[self.choices[choice]])

    def choices_behind(self, choice):
        return tuple(k for k, face in enumerate(self.choices) if self.choices[choice] in self.ahead[face])

    def is_closed(self, chosen):
        return all(ahead in chosen for choice in chosen for ahead in self.choices_ahead(choice))

    def readings(self):
        """All readings, sorted by their diffs."""
        if self.found is None:
            numbers = range(len(self.choices))
            told = [chosen for many in range(len(numbers) + 1) for chosen in combinations(numbers, many)]
            self.found = sorted([chosen for chosen in told if self.is_closed(chosen)], key=self.diff_of)
        return list(self.found)

    def diff_of(self, reading):
        """The diff of a reading: the way that turns from each step to the next one where the face is in A."""
        passed = {self.choices[choice] for choice in reading}
        for choice in reading:
            passed |= self.ahead[self.choices[choice]]
        way = [(0, 0)]
        while self.onward[way[-1]]:
            others = self.onward[way[-1]]
            at = 0
            while at + 1 < len(others) and self.begun_by(way[-1], others[at], others[at + 1]) in passed:
                at += 1
            way.append(others[at])
        return diff_of_way(way)

    def begun_by(self, place, first, second):
        return next(face for face in self.faces if (face[0][:2], face[1][:2]) == ((place, first), (place, second)))


def steps_of(side):
    return list(zip(side, side[1:]))


def some_texts():
    """(old, new, going, coming) of short texts that have from none to some choices."""
    own = ({"a": 2, "b": 5}, {"a": 3, "b": 1})
    found = [
        ("", "", None, None), ("a", "", None, None), ("", "ab", None, None), ("ab", "ab", None, None),
        ("aba", "a", None, None), ("xyxy", "xy", None, None), ("aaaa", "aa", None, None), ("aa", "aaaa", None, None),
        ("ab", "cd", None, None), ("abab", "baba", None, None), ("apaq", "aqap", None, None),
        ("abcab", "cabca", None, None), ("aabba", "aba", None, None), ("bba", "babb", None, None),
        ("babb", "bbaa", None, None), ("aaaaa", "aa", None, None), ("xyxyx", "xyx", None, None),
        ("apqa", "a", None, None), ("aqa", "ara", None, None), ("axax", "ayay", None, None), ("aab", "baa", None, None),
        ("aab", "baa", *own), ("abba", "baab", *own), ("bab", "aba", *own), ("aaba", "ba", *own),
        ("abcba", "acbca", None, None), ("aabcaa", "abca", None, None), ("qaaq", "aqa", None, None),
        ("cabbac", "abcab", None, None), ("aaxaa", "ayaya", None, None), ("aa", "axa", None, None),
        ("aaa", "aca", None, None), ("aca", "aaa", None, None), ("aaa", "abab", None, None),
        ("aba", "aca", None, None), ("abaaca", "acaaba", None, None), ("ax", "yaza", None, None),
    ]
    return [(list(old), list(new), going, coming) for old, new, going, coming in found]
