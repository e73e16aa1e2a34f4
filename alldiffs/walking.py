"""WALKING: the row of a pick of a merge, told from gap to gap of the base."""

from alldiffs.errors import InvalidState
from alldiffs.shapes import is_spot, is_tuple, is_whole

BEGINNING = (0, (0, 0), (0, 0), None)
VERSIONS = ("one", "two")


def is_under_way(part):
    """Whether a PART is a block that is under way, no node."""
    return isinstance(part[0], tuple)


class Over:
    """What of a version's block, which may be nothing, covers a gap and the lines on both sides of it.

    before and after are how many lines of the version stand ahead of the gap and behind what comes there. Of a block
    that covers both the gap and a line beside it nobody asks for the number on that side.
    """

    def __init__(self, gap, part, node):
        self.begins = not is_under_way(part)
        first = part if self.begins else part[0]
        self.stop = node[0] - 1
        self.after = node[1] - 1
        self.comes = self.after > first[1]
        self.before = first[1] if self.begins else self.after
        self.comes_in = self.begins and self.comes
        self.goes_off = self.begins and not self.comes and self.stop > gap
        self.joins_back = not self.begins and (self.comes or self.stop > gap)
        self.joins_on = self.stop > gap and (self.comes or not self.begins)


def part_behind(gap, part, node):
    """The PART at the next gap of a version that has this one and goes on to this node."""
    if node[0] == gap + 1:
        return node
    return part if is_under_way(part) else (part, node)


class Walk:
    """The texts of a merge and the nodes that follow one another in its versions: what its steps depend on."""

    def __init__(self, base, texts, nodes_behind):
        self._base = base
        self._texts = texts
        self._nodes_behind = nodes_behind
        self._layers = [{BEGINNING: True}]
        self._last_coming = max([
            node[0] for behind in nodes_behind for node in behind for other in behind[node] if other[1] - 1 > node[1]
        ], default=-1)

    def turned(self):
        """The Walk with the versions exchanged."""
        return Walk(self._base, self._texts[::-1], self._nodes_behind[::-1])

    def gaps(self):
        """How many gaps the base has."""
        return len(self._base) + 1

    def nodes_behind(self, version, part):
        """The nodes to which a version (0 or 1) may go on from a part, sorted."""
        return (part[1],) if is_under_way(part) else self._nodes_behind[version][part]

    def moves(self, state):
        """The list of the tuples of nodes, one of each version, that may be chosen in a state."""
        _, one, two, _ = state
        return [(node, other) for node in self.nodes_behind(0, one) for other in self.nodes_behind(1, two)]

    def led(self, state, nodes):
        """The tokens that the step with these chosen nodes writes, and the state to which it leads."""
        gap, one, two, knot = state
        overs = (Over(gap, one, nodes[0]), Over(gap, two, nodes[1]))
        before, after = [over.before for over in overs], [over.after for over in overs]
        tokens = ()
        if knot is not None and not any([over.joins_back for over in overs]):
            tokens, knot = self._told(knot, gap, before), None
        knot = self._grown(knot, gap, overs, [over.comes_in for over in overs], before)
        if knot is not None and not any([over.joins_on for over in overs]):
            tokens, knot = tokens + self._told(knot, gap, after), None
        knot = self._grown(knot, gap, overs, [over.goes_off for over in overs], after)
        if gap == len(self._base):
            return (tokens, None)
        if knot is None:
            tokens = (*tokens, self._base[gap])
        return (tokens, (gap + 1, part_behind(gap, one, nodes[0]), part_behind(gap, two, nodes[1]), knot))

    def _told(self, knot, gap, stops):
        """The tokens of a knot that ends at a gap or at the line ahead of it, where so many lines are done."""
        a, first, second, comes, shape = knot
        if not comes:
            return ()
        one, two = self._texts[0][first:stops[0]], self._texts[1][second:stops[1]]
        if shape == "mixed":
            return (("clash", a, gap, one, two),)
        return two if shape == "two" else one

    def _grown(self, knot, gap, overs, added, counts):
        """The knot with the added ones of the blocks that begin at a gap; a new one if there is none yet."""
        if not any(added):
            return knot
        comes = any([over.comes for over, adds in zip(overs, added) if adds])
        if knot is not None:
            a, first, second, came, _ = knot
            return (a, first, second, came or comes, "mixed")
        if all(added):
            shape = "alike" if self.are_alike(overs) else "mixed"
        else:
            shape = VERSIONS[0] if added[0] else VERSIONS[1]
        return (gap, counts[0], counts[1], comes, shape)

    def are_alike(self, overs):
        """Whether two blocks that begin at the same gap end alike, and the same lines come in both."""
        one, two = overs
        lines = [text[over.before:over.after] for text, over in zip(self._texts, overs)]
        return one.stop == two.stop and lines[0] == lines[1]

    def changes(self, state, nodes):
        """The LINES that go and those that come where the step with these chosen nodes leads; what is alike once."""
        gap, one, two, _ = state
        overs = (Over(gap, one, nodes[0]), Over(gap, two, nodes[1]))
        gone = self._base[gap:gap + 1] if any([over.stop > gap for over in overs]) else ()
        come = [text[over.before:over.after] if over.comes_in else () for text, over in zip(self._texts, overs)]
        if overs[0].comes_in and overs[1].comes_in and self.are_alike(overs):
            return (gone, come[0])
        return (gone, come[0] + come[1])

    def steps(self, state):
        """The list of the tuples (tokens, state) of all steps from a state."""
        return [self.led(state, nodes) for nodes in self.moves(state)]

    def brief(self, state):
        """What of a state matters to the steps that follow and to what they write."""
        gap, one, two, knot = state
        # Where a knot begins is told by clashes alone, and there is none in which nothing comes.
        going = knot is not None and not knot[3] and gap > self._last_coming
        return (gap, brief_part(one), brief_part(two), knot[3:] if going else knot)

    def states_at(self, gap):
        """A dict with the states at a gap as its keys; they are kept, those of the gaps ahead of it, too."""
        while len(self._layers) <= gap:
            ahead = self._layers[-1]
            self._layers.append({other: True for state in ahead for _, other in self.steps(state)})
        return self._layers[gap]

    def has(self, value):
        """Whether any value is a state to which steps lead from the beginning."""
        return is_state_shape(value) and value[0] < self.gaps() and value in self.states_at(value[0])


def brief_part(part):
    """What of a PART matters to the steps that follow."""
    if not is_under_way(part):
        return part
    (_, j), (k, n) = part
    return (k, n, n - 1 > j)


def outline(state):
    """What of a state, or of the None behind a last step, matters to the steps that follow and to their weights."""
    if state is None:
        return None
    gap, one, two, knot = state
    return (gap, brief_part(one), brief_part(two), None if knot is None else knot[3:])


class Outlines:
    """One state of a Walk for each outline, and for each of these states a row of steps that leads to it."""

    def __init__(self, walk):
        self._layers = [{outline(BEGINNING): BEGINNING}]
        self._leading = {}
        while len(self._layers) < walk.gaps():
            self._layers.append(self._next_layer(walk, self._layers[-1]))

    def _next_layer(self, walk, layer):
        """The states at the next gap, by their outlines."""
        found = {}
        for state in layer.values():
            for _, other in walk.steps(state):
                if outline(other) not in found:
                    found[outline(other)] = other
                    self._leading[other] = state
        return found

    def states_at(self, gap):
        """The list of the states at a gap."""
        return list(self._layers[gap].values())

    def row_to(self, state):
        """The list of the states on the way from the beginning to one of these states."""
        row = [state]
        while row[-1] in self._leading:
            row.append(self._leading[row[-1]])
        return row[::-1]


def is_part_shape(value):
    """Whether any value is a tuple of two INTEGERS or of two such tuples, as PARTS are."""
    return is_spot(value) or (is_tuple(value, 2) and is_spot(value[0]) and is_spot(value[1]))


def is_knot_shape(value):
    """Whether any value is None or a tuple as a state has it of its knot."""
    if value is None:
        return True
    if not is_tuple(value, 5) or not all([is_whole(number) for number in value[:3]]):
        return False
    return isinstance(value[3], bool) and isinstance(value[4], str)


def is_state_shape(value):
    """Whether any value looks like a state, so that it is equal to one only if it is one."""
    if not is_tuple(value, 4) or not is_whole(value[0]) or value[0] < 0:
        return False
    return is_part_shape(value[1]) and is_part_shape(value[2]) and is_knot_shape(value[3])


def is_of_all_states(walk, value):
    """Whether any value is a dict that has all states of a Walk as its keys, and no other key."""
    if not isinstance(value, dict) or not all([is_state_shape(state) for state in value]):
        return False
    many = sum([len(walk.states_at(gap)) for gap in range(walk.gaps())])
    return len(value) == many and all([walk.has(state) for state in value])


def kept_of(states, version):
    """The DIFF of a version (1 or 2) of which a row of states, from the beginning on, has the parts."""
    parts = [state[version] for state in states[1:]]
    return tuple([part for part in parts if not is_under_way(part)])


def beginning(merge):
    """The state at the first gap."""
    return BEGINNING


def steps_from(merge, state):
    """The list of all steps from a state, as tuples (tokens, state), None for the state behind a last one."""
    if not merge.walk.has(state):
        raise InvalidState(state)
    return merge.walk.steps(state)
