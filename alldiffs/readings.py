"""READINGS: the least diffs, told by the choices that they make."""

from alldiffs.choices import Choices
from alldiffs.diffs import check_diff, cost_of, gaps_of
from alldiffs.errors import InvalidCount, InvalidPlace, InvalidReading, NotLeast, Settled
from alldiffs.shapes import is_spot, is_within
from alldiffs.tables import diff_of_way, is_pair_step


def next_place(known, place, faces):
    """Where the way leads from one of its places that has these faces above it, a dict of their numbers."""
    steps = known.web.steps(place)
    at = 0
    # Behind any step but the last one, the face below it begins with it and the step that follows.
    while known.face_below(steps[at]) in faces:
        at += 1
    return steps[at][1]


def way_of_diff(old, new, diff):
    """The way of a DIFF with the goings of each BLOCK ahead of its comings."""
    way = []
    for a, b, c, d in gaps_of(old, new, diff):
        way.extend([(i, c) for i in range(a, b + 1)] + [(b, j) for j in range(c + 1, d + 1)])
    return tuple(way)


def onward_left(known, place, made, unmade):
    """The places to which steps that are left lead from a place of the web.

    made are the faces, by their numbers, above all ways that are left, unmade those below all of them.
    """
    steps = known.web.steps(place)
    return tuple([
        step[1] for step in steps if known.face_above(step) not in unmade and known.face_below(step) not in made
    ])


def turned_steps(further):
    """For each place the places that lead to it, out of those to which each one leads."""
    back = {place: [] for place in further}
    for place in further:
        for other in further[place]:
            back[other].append(place)
    return back


def met_pairs(beside, start):
    """The PAIR steps (from here, to there) that are met behind GO and COME steps alone, and the places between.

    beside tells for each place those that are one step further, be it onward or back.
    """
    reached = {}
    steps = []
    waiting = [start]
    while waiting:
        place = waiting.pop()
        if place not in reached:
            reached[place] = True
            others = beside[place]
            steps.extend([(place, other) for other in others if is_slanted(place, other)])
            waiting.extend([other for other in others if not is_slanted(place, other)])
    return (steps, reached)


def is_slanted(place, other):
    """Whether a step between two places, in whatever direction, is a PAIR."""
    return is_pair_step((min(place, other), max(place, other)))


def diffs_behind(further):
    """For each place a tuple: how many diffs the ways from there on have; the same of ways that take no GO at first.

    Each diff is counted by one of its ways only, the one whose goings stand ahead of the comings in each BLOCK.
    """
    counts = {}
    for place in sorted(further, reverse=True):
        going = [counts[other][0] for other in further[place] if other[1] == place[1]]
        pairing = [counts[other][0] for other in further[place] if is_pair_step((place, other))]
        coming = [counts[other][1] for other in further[place] if other[0] == place[0]]
        behind_coming = sum(pairing) + sum(coming) if further[place] else 1
        counts[place] = (sum(going) + behind_coming, behind_coming)
    return counts


def can_be_flipped(known, choice, chosen):
    """Whether a reading, a dict with its choices as keys, is still one with this choice made or unmade."""
    if choice in chosen:
        return not any([other in chosen for other in known.near_behind(choice)])
    return all([other in chosen for other in known.near_ahead(choice)])


def first_flip(known, choices, chosen):
    """The first of these choices that can be made or unmade in a reading, a dict with its choices as keys."""
    for choice in choices:
        if can_be_flipped(known, choice, chosen):
            return choice
    return None


def flipped_one_by_one(known, start, choices):
    """The readings behind each flip: of these choices always the first one that can be flipped, until all are."""
    chosen = {choice: True for choice in start}
    waiting = list(choices)
    rows = []
    while waiting:
        choice = first_flip(known, waiting, chosen)
        if choice in chosen:
            del chosen[choice]
        else:
            chosen[choice] = True
        waiting.remove(choice)
        rows.append(tuple(sorted(chosen)))
    return rows


def has_settled(states, reading):
    """Whether a reading has the choices with the state True, and not those with False."""
    chosen = set(reading)
    return all([state is None or state == (number in chosen) for number, state in enumerate(states)])


class Readings:
    """The readings of two TEXTS and costs that are left, as far as choices are settled."""

    def __init__(self, old, new, costs):
        known = Choices(old, new, costs)
        self._take(known, (None,) * len(known))

    @classmethod
    def of(cls, known):
        """The readings of a Choices."""
        # Texts without lines cost nothing; all that they tell is replaced.
        readings = cls([], [], known.web.costs)
        readings._take(known, (None,) * len(known))
        return readings

    def _take(self, known, states):
        web = known.web
        made = {face: True for face in known.faces_ahead([at for at, state in enumerate(states) if state is True])}
        unmade = {face: True for face in known.faces_behind([at for at, state in enumerate(states) if state is False])}
        further = {place: onward_left(known, place, made, unmade) for place in web.places()}
        self._old = web.old
        self._new = web.new
        self._end = (len(self._old), len(self._new))
        self._known = known
        self._states = states
        self._onward = {place: further[place] for place in further if further[place] or place == self._end}
        self._pairs = {other: True for place in further for other in further[place] if is_pair_step((place, other))}
        self._last_node = (len(self._old) + 1, len(self._new) + 1)

    @property
    def old(self):
        """The text old."""
        return list(self._old)

    @property
    def new(self):
        """The text new."""
        return list(self._new)

    @property
    def costs(self):
        """The costs."""
        return self._known.web.costs

    @property
    def known(self):
        """The choices, whatever is settled."""
        return self._known

    def free(self):
        """The sorted tuple of the choices that are not settled."""
        return tuple([choice for choice, state in enumerate(self._states) if state is None])

    def held(self):
        """A dict from the settled choices, sorted, to True (made) or False."""
        return {choice: state for choice, state in enumerate(self._states) if state is not None}

    def __contains__(self, value):
        return self._known.is_closed(value) and has_settled(self._states, value)

    def check_reading(self, value):
        """Raises InvalidReading for what is no reading that is left."""
        if value not in self:
            raise InvalidReading(value)

    def first(self):
        """The reading without free choices."""
        return tuple([choice for choice, state in enumerate(self._states) if state is True])

    def last(self):
        """The reading with all free choices."""
        return tuple([choice for choice, state in enumerate(self._states) if state is not False])

    def diff_of(self, reading):
        """The DIFF of a reading."""
        self.check_reading(reading)
        faces = {face: True for face in self._known.faces_ahead(reading)}
        way = [(0, 0)]
        while way[-1] != self._end:
            way.append(next_place(self._known, way[-1], faces))
        return diff_of_way(way)

    def reading_of(self, diff):
        """The reading of a least diff."""
        check_diff(self._old, self._new, diff)
        way = way_of_diff(self._old, self._new, diff)
        if not self._known.web.is_way(way):
            raise NotLeast(cost_of(self._old, self._new, diff, self.costs))
        reading = self._reading_of_way(way)
        for choice, state in enumerate(self._states):
            if state is not None and state != (choice in reading):
                raise Settled(choice)
        return reading

    def _reading_of_way(self, way):
        faces = [self._known.face_above(step) for step in zip(way, way[1:])]
        return self._known.choices_up_to([face for face in faces if face is not None])

    def through(self, step):
        """The least of the readings that are left whose ways can take a step that is left."""
        face = self._known.face_above(step)
        ahead = () if face is None else self._known.choices_up_to([face])
        return self._with(self.first(), ahead)

    def _with(self, reading, choices):
        return tuple(sorted(set(reading) | set(choices)))

    def flips(self, reading):
        """The sorted tuple of the free choices that can be made or unmade in a reading."""
        self.check_reading(reading)
        chosen = {choice: True for choice in reading}
        return tuple([choice for choice in self.free() if can_be_flipped(self._known, choice, chosen)])

    def made(self, reading, choice):
        """The reading with a choice and all ahead of it."""
        self.check_reading(reading)
        self._check_not(choice, False)
        return self._with(reading, (choice, *self._known.ahead(choice)))

    def unmade(self, reading, choice):
        """The reading without a choice and all behind it."""
        self.check_reading(reading)
        self._check_not(choice, True)
        return tuple(sorted(set(reading) - set([choice, *self._known.behind(choice)])))

    def _check_not(self, choice, state):
        """Raises InvalidChoice for what is no choice, Settled for one that is settled so."""
        self._known.check_choice(choice)
        if self._states[choice] == state:
            raise Settled(choice)

    def both(self, one, other):
        """The reading of the choices that two readings both have."""
        self.check_reading(one)
        self.check_reading(other)
        return tuple(sorted(set(one) & set(other)))

    def either(self, one, other):
        """The reading of the choices that one of two readings has."""
        self.check_reading(one)
        self.check_reading(other)
        return self._with(one, other)

    def path(self, one, other):
        """The list of readings from one to another, each with one flip more."""
        common = self.both(one, other)
        unmade = flipped_one_by_one(self._known, one, sorted(set(one) - set(common))[::-1])
        made = flipped_one_by_one(self._known, common, sorted(set(other) - set(common)))
        return [one, *unmade, *made]

    def settled(self, choice, made):
        """The Readings that are left if a choice is settled, too."""
        self._check_not(choice, not made)
        others = self._known.ahead(choice) if made else self._known.behind(choice)
        told = {other: made for other in (choice, *others)}
        # Texts without lines cost nothing; all that they tell is replaced.
        left = Readings([], [], self.costs)
        left._take(self._known, tuple([told.get(at, state) for at, state in enumerate(self._states)]))
        return left

    def settled_as(self, *pairs):
        """The Readings that are left if these tuples (choice, made) are settled, one after the other."""
        left = self
        for choice, made in pairs:
            left = left.settled(choice, made)
        return left

    def count(self):
        """How many readings are left."""
        return diffs_behind(self._onward)[(0, 0)][0]

    def in_order(self):
        """Yields the readings that are left, in the order of their diffs."""
        row = self._least_row([(0, 0)])
        while row is not None:
            yield self._reading_of_way(way_of_diff(self._old, self._new, tuple(row[1:-1])))
            row = self._row_behind(row)

    def _least_row(self, row):
        """The row of nodes that begins so and has the least diff."""
        while row[-1] != self._last_node:
            row = [*row, self.following(row[-1])[0]]
        return row

    def _row_behind(self, row):
        """The row of nodes whose diff comes next, None if there is none."""
        for at in reversed(range(len(row) - 1)):
            later = [node for node in self.following(row[at]) if node > row[at + 1]]
            if later:
                return self._least_row([*row[:at + 1], later[0]])
        return None

    def _many_behind(self):
        """For each node how many rows of nodes lead on from it."""
        many = {place: counts[0] for place, counts in diffs_behind(self._onward).items()}
        many[self._last_node] = 1
        return many

    def nth(self, number):
        """The reading of which so many that are left come ahead."""
        many = self._many_behind()
        if not is_within(number, 0, many[(0, 0)] - 1):
            raise InvalidCount(number)
        row, rest = [(0, 0)], number
        while row[-1] != self._last_node:
            for node in self.following(row[-1]):
                if rest < many[node]:
                    row.append(node)
                    break
                rest = rest - many[node]
        return self._reading_of_way(way_of_diff(self._old, self._new, tuple(row[1:-1])))

    def position(self, reading):
        """How many readings that are left come ahead of a reading."""
        row = [(0, 0), *self.diff_of(reading), self._last_node]
        many = self._many_behind()
        return sum([
            many[other] for one, node in zip(row, row[1:]) for other in self.following(one) if other < node
        ])

    def nodes(self):
        """The sorted list of the nodes."""
        return [(0, 0), *sorted(self._pairs), self._last_node]

    def _check_node(self, value):
        if not is_spot(value) or (value not in self._pairs and value not in ((0, 0), self._last_node)):
            raise InvalidPlace(value)

    def following(self, node):
        """The sorted list of the nodes that follow a node."""
        self._check_node(node)
        if node == self._last_node:
            return []
        steps, reached = met_pairs(self._onward, node)
        nodes = [other for _, other in steps]
        return sorted([*nodes, self._last_node] if self._end in reached else nodes)

    def leading(self, node):
        """The sorted list of the nodes that a node follows."""
        self._check_node(node)
        if node == (0, 0):
            return []
        i, j = node
        steps, reached = met_pairs(turned_steps(self._onward), (i - 1, j - 1))
        nodes = [place for place, _ in steps]
        return sorted([(0, 0), *nodes] if (0, 0) in reached else nodes)

    def places(self):
        """The sorted list of the places that are left."""
        return sorted(self._onward)

    def steps(self, place):
        """The list of the steps that are left of a place, in the order GO, PAIR, COME."""
        if not is_spot(place) or place not in self._onward:
            raise InvalidPlace(place)
        return [(place, other) for other in self._onward[place]]

    def __eq__(self, other):
        return isinstance(other, Readings) and self._known == other._known and self._states == other._states

    def __repr__(self):
        return f"Readings({len(self._old)}, {len(self._new)}, {self.held()!r})"
