"""CORES of merges: the choices that the merged row of two versions depends on."""

from alldiffs.costs import check_costs
from alldiffs.errors import InvalidChoice, InvalidPick, InvalidVersion, NotSure, Settled, TooLarge
from alldiffs.readings import Readings
from alldiffs.rows import merged
from alldiffs.shapes import is_tuple, is_within
from alldiffs.texts import alike_first, check_texts
from alldiffs.walking import Outlines, Walk, is_under_way, kept_of

MOST_PLACES = 1000
NOTHING = ((), ())


def nodes_behind(readings):
    """A dict from each node to the tuple of the nodes that follow it."""
    return {node: tuple(readings.following(node)) for node in readings.nodes()}


def common_nodes(nodes, others):
    """The tuple of the nodes that are in both lists."""
    return tuple([node for node in nodes if node in others])


def without_common(ones, others):
    """What stands in two rows behind the tokens that both begin with."""
    many = alike_first(ones, others)
    return (ones[many:], others[many:])


class Parting:
    """The search for two picks that differ in one choice of the first version of a Walk alone, with unlike rows.

    Both are told at once, gap by gap. One takes the nodes of the upper side of the choice, the other one those of
    its lower side; ahead of these and behind them both have the same nodes, and so they have of the second version.
    """

    def __init__(self, walk, sides, ends):
        self._walk = walk
        self._sides = sides
        self._ends = ends
        self._seen = {}

    def _nodes(self, which, state):
        """The nodes to which the first version may go on in the pick of the upper (0) or the lower (1) side."""
        side, part = self._sides[which], state[1]
        if is_under_way(part) or part > side[-1]:
            return self._walk.nodes_behind(0, part)
        if part == side[-1]:
            return self._ends
        return side[:1] if part < side[0] else (side[side.index(part) + 1],)

    def _moves(self, states):
        """The list of the tuples of nodes: of the first version in the one and the other pick, of the second version.
        """
        upper, lower = self._sides
        pairs = [(node, other) for node in self._nodes(0, states[0]) for other in self._nodes(1, states[1])]
        pairs = [(node, other) for node, other in pairs if node == other or node in upper or other in lower]
        return [(node, other, third) for node, other in pairs for third in self._walk.nodes_behind(1, states[0][2])]

    def _led(self, states, move, rest):
        """The two states behind a move, and what each pick has then written that the other one has not."""
        node, other, third = move
        tokens, one = self._walk.led(states[0], (node, third))
        others, two = self._walk.led(states[1], (other, third))
        return ((one, two), without_common(rest[0] + tokens, rest[1] + others))

    def found(self, states, rest):
        """The two states at each gap from here on, of picks with unlike rows; None if there are none.

        rest is what each pick has written that the other one has not; for one of them it is nothing.
        """
        for move in self._moves(states):
            behind, unlike = self._led(states, move, rest)
            row = self._found_behind(behind, unlike)
            if row is not None:
                return [states, *row]
        return None

    def _found_behind(self, states, rest):
        one, two = states
        if one is None:
            return [] if rest != NOTHING else None
        key = (self._walk.brief(one), self._walk.brief(two), rest)
        together = key[0] == key[1]
        if (rest[0] and rest[1]) or (together and rest != NOTHING):
            return self._completed(states)
        if together or key in self._seen:
            return None
        self._seen[key] = True
        return self.found(states, rest)

    def _completed(self, states):
        """The two states at each gap from here on, of whatever picks."""
        row = [states]
        while row[-1][0] is not None:
            behind, _ = self._led(row[-1], self._moves(row[-1])[0], NOTHING)
            row.append(behind)
        return row[:-1]


class Merge:
    """All merged rows of two versions of a base, and the choices by which they differ."""

    def __init__(self, base, one, two, costs):
        check_texts(base, one, two)
        check_costs(costs)
        if (len(base) + 1) * (len(one) + 1) * (len(two) + 1) > MOST_PLACES:
            raise TooLarge("merge", MOST_PLACES)
        self._take(Readings(base, one, costs), Readings(base, two, costs))

    def _take(self, first, second):
        texts = (tuple(first.new), tuple(second.new))
        walk = Walk(tuple(first.old), texts, (nodes_behind(first), nodes_behind(second)))
        self._versions = (first, second)
        self._walks = (walk, walk.turned())
        self._outlines = {}
        self._partings = {}

    def _other(self, first, second):
        """A Merge of other Readings with the same costs."""
        # Texts without lines cost nothing; all that they tell is replaced.
        other = Merge([], [], [], self.costs)
        other._take(first, second)
        return other

    @property
    def base(self):
        """The base."""
        return self._versions[0].old

    @property
    def costs(self):
        """The costs."""
        return self._versions[0].costs

    @property
    def walk(self):
        """What the steps from state to state depend on."""
        return self._walks[0]

    def version(self, number):
        """The text of a version."""
        return self.readings(number).new

    def readings(self, number):
        """The Readings from the base to a version."""
        if not is_within(number, 1, 2):
            raise InvalidVersion(number)
        return self._versions[number - 1]

    def outlines(self, number):
        """One state for each outline of the walk in which this version is the first one."""
        if number not in self._outlines:
            self._outlines[number] = Outlines(self._walks[number - 1])
        return self._outlines[number]

    def count(self):
        """How many picks there are."""
        return self._versions[0].count() * self._versions[1].count()

    def is_pick(self, value):
        """Whether any value is a pick of what is left."""
        return is_tuple(value, 2) and value[0] in self._versions[0] and value[1] in self._versions[1]

    def diffs_of(self, pick):
        """The DIFFS of a pick."""
        if not self.is_pick(pick):
            raise InvalidPick(pick)
        return (self._versions[0].diff_of(pick[0]), self._versions[1].diff_of(pick[1]))

    def pick_of(self, diff, other):
        """The pick of two least diffs."""
        return (self._versions[0].reading_of(diff), self._versions[1].reading_of(other))

    def row_of(self, pick):
        """The ROW of a pick."""
        diff, other = self.diffs_of(pick)
        return merged(self.base, self.version(1), self.version(2), diff, other)

    def is_choice(self, value):
        """Whether any value is a choice of the merge, settled or not."""
        if not is_tuple(value, 2) or not is_within(value[0], 1, 2):
            return False
        return is_within(value[1], 0, len(self._versions[value[0] - 1].known) - 1)

    def _check_choice(self, value):
        if not self.is_choice(value):
            raise InvalidChoice(value)

    def core(self):
        """The sorted tuple of the choices that matter."""
        free = [(number, choice) for number in (1, 2) for choice in self.readings(number).free()]
        return tuple([choice for choice in free if self.parted(choice) is not None])

    def is_sure(self):
        """Whether all picks have one row."""
        return self.core() == ()

    def row(self):
        """The ROW of all picks."""
        core = self.core()
        if core:
            raise NotSure(core)
        return self.row_of((self._versions[0].first(), self._versions[1].first()))

    def parted(self, choice):
        """Two picks that differ in a choice alone, with unlike rows; None if the choice does not matter."""
        self._check_choice(choice)
        if choice not in self._partings:
            number, numbered = choice
            is_free = numbered in self._versions[number - 1].free()
            self._partings[choice] = self._sought(number, numbered) if is_free else None
        return self._partings[choice]

    def _sought(self, number, choice):
        """What parted tells of a free choice of a version."""
        readings, outlines = self._versions[number - 1], self.outlines(number)
        upper, lower = readings.known.pairs(choice)
        ends = common_nodes(readings.following(upper[-1]), readings.following(lower[-1]))
        search = Parting(self._walks[number - 1], (upper, lower), ends)
        for begin in common_nodes(readings.leading(upper[0]), readings.leading(lower[0])):
            for state in outlines.states_at(begin[0]):
                row = search.found((state, state), NOTHING) if state[1] == begin else None
                if row is not None:
                    return self._told_picks(number, outlines.row_to(state)[:-1], row)
        return None

    def _told_picks(self, number, ahead, row):
        """The two picks of rows of states in which this version is the first one, and that begin alike."""
        picks = []
        for which in (0, 1):
            states = ahead + [pair[which] for pair in row]
            diffs = (kept_of(states, 1), kept_of(states, 2))
            picks.append(self.pick_of(diffs[number - 1], diffs[2 - number]))
        return (picks[0], picks[1])

    def is_parted(self, choice, value):
        """Whether any value is a tuple of two such picks."""
        self._check_choice(choice)
        if not is_tuple(value, 2) or not self.is_pick(value[0]) or not self.is_pick(value[1]):
            return False
        number, numbered = choice
        without, having = list(value[0]), list(value[1])
        without[number - 1] = tuple(sorted([*without[number - 1], numbered]))
        return without == having and self.row_of(value[0]) != self.row_of(value[1])

    def settled(self, choice, made):
        """The Merge of what is left if a choice is settled, too."""
        self._check_choice(choice)
        if self.held().get(choice, made) != made:
            raise Settled(choice)
        number, numbered = choice
        left = [readings.settled(numbered, made) if at == number else readings for at, readings in self._numbered()]
        return self._other(left[0], left[1])

    def _numbered(self):
        return [(1, self._versions[0]), (2, self._versions[1])]

    def held(self):
        """A dict from all settled choices to True (made) or False."""
        return {
            (number, choice): made for number, readings in self._numbered() for choice, made in readings.held().items()
        }

    def swapped(self):
        """The Merge with the versions exchanged, and what is settled."""
        return self._other(self._versions[1], self._versions[0])

    def __eq__(self, other):
        return isinstance(other, Merge) and self._versions == other._versions

    def __repr__(self):
        first, second = self._versions
        return f"Merge({first.old!r}, {first.new!r}, {second.new!r}, {first.costs!r})"
