"""TABLES of least costs: for each PLACE, of what stands ahead of it and of what stands behind it."""

from alldiffs.costs import check_costs
from alldiffs.diffs import cost_of, is_diff
from alldiffs.errors import InvalidPlace
from alldiffs.shapes import is_list, is_spot, is_whole
from alldiffs.texts import check_texts


def check_given(old, new, costs):
    """Raises InvalidText, then InvalidCosts, for what is none."""
    check_texts(old, new)
    check_costs(costs)


def least_cost(old, new, costs):
    """D, the least cost of all diffs."""
    return Tables(old, new, costs).total


def places_onward(old, new, place):
    """The places to which steps lead from a place, in the order GO, PAIR, COME."""
    i, j = place
    places = []
    if i < len(old):
        places.append((i + 1, j))
    if i < len(old) and j < len(new) and old[i] == new[j]:
        places.append((i + 1, j + 1))
    if j < len(new):
        places.append((i, j + 1))
    return places


def all_steps(old, new):
    """The tuples (place, place) of all steps."""
    places = [(i, j) for i in range(len(old) + 1) for j in range(len(new) + 1)]
    return [(place, other) for place in places for other in places_onward(old, new, place)]


def is_pair_step(step):
    """Whether a step is a PAIR."""
    (i, j), (k, n) = step
    return i < k and j < n


def diff_of_way(way):
    """The DIFF of a WAY."""
    return tuple([step[1] for step in zip(way, way[1:]) if is_pair_step(step)])


def step_cost(old, new, costs, step):
    """What a step costs."""
    (i, j), (k, _) = step
    if is_pair_step(step):
        return 0
    return costs.going(old[i]) if i < k else costs.coming(new[j])


def begin_numbers(old, new, costs):
    """P, the greatest begin table."""
    goings = [costs.going(line) for line in old]
    comings = [costs.coming(line) for line in new]
    table = []
    for i in range(len(old) + 1):
        row = []
        for j in range(len(new) + 1):
            sums = []
            if i > 0:
                sums.append(table[i - 1][j] + goings[i - 1])
            if i > 0 and j > 0 and old[i - 1] == new[j - 1]:
                sums.append(table[i - 1][j - 1])
            if j > 0:
                sums.append(row[j - 1] + comings[j - 1])
            row.append(min(sums, default=0))
        table.append(row)
    return table


def end_numbers(old, new, costs):
    """Q, the greatest end table: P of both texts read from behind."""
    return turned_table(begin_numbers(old[::-1], new[::-1], costs))


def turned_table(table):
    """The TABLE as it is for both texts read from behind."""
    return [row[::-1] for row in table[::-1]]


def is_table(old, new, value):
    """Whether any value is a TABLE of INTEGERS."""
    if not is_list(value) or len(value) != len(old) + 1:
        return False
    return all([is_table_row(row, len(new) + 1) for row in value])


def is_table_row(value, many):
    """Whether any value is a list of so many INTEGERS."""
    return is_list(value) and len(value) == many and all([is_whole(number) for number in value])


def is_begin_numbers(old, new, costs, table):
    """Whether a TABLE has 0 at (0, 0), and no step leads up by more than its cost."""
    return table[0][0] == 0 and all([
        table[k][n] <= table[i][j] + step_cost(old, new, costs, ((i, j), (k, n)))
        for (i, j), (k, n) in all_steps(old, new)
    ])


class Tables:
    """The tables P and Q of two TEXTS and costs."""

    def __init__(self, old, new, costs):
        check_given(old, new, costs)
        self._old = list(old)
        self._new = list(new)
        self._costs = costs
        self._begin_table = begin_numbers(self._old, self._new, costs)
        self._end_table = end_numbers(self._old, self._new, costs)

    @property
    def total(self):
        """D, the least cost of all diffs."""
        return self._end_table[0][0]

    @property
    def begin_table(self):
        """P."""
        return [list(row) for row in self._begin_table]

    @property
    def end_table(self):
        """Q."""
        return [list(row) for row in self._end_table]

    def onward(self, place):
        """Yields the places to which steps lead from a place, in the order GO, PAIR, COME."""
        self._check_place(place)
        yield from places_onward(self._old, self._new, place)

    def slack(self, one, other):
        """How much more than D the diffs with the step from one place to another cost; None if there is no step."""
        self._check_place(one)
        self._check_place(other)
        if other not in places_onward(self._old, self._new, one):
            return None
        cost = step_cost(self._old, self._new, self._costs, (one, other))
        return self._begin_table[one[0]][one[1]] + cost + self._end_table[other[0]][other[1]] - self.total

    def _check_place(self, value):
        if not is_spot(value) or not (0 <= value[0] <= len(self._old) and 0 <= value[1] <= len(self._new)):
            raise InvalidPlace(value)

    def diff(self):
        """A least diff: at each place the first step that some least diff takes."""
        way = [(0, 0)]
        while way[-1] != (len(self._old), len(self._new)):
            places = places_onward(self._old, self._new, way[-1])
            way.append([place for place in places if self.slack(way[-1], place) == 0][0])
        return diff_of_way(way)

    def __contains__(self, value):
        if not is_diff(self._old, self._new, value):
            return False
        return cost_of(self._old, self._new, value, self._costs) == self.total

    def __eq__(self, other):
        return (
            isinstance(other, Tables)
            and self._old == other._old
            and self._new == other._new
            and self._costs == other._costs
        )

    @staticmethod
    def is_begin(old, new, costs, value):
        """Whether any value is a begin table."""
        check_given(old, new, costs)
        return is_table(old, new, value) and is_begin_numbers(old, new, costs, value)

    @staticmethod
    def is_end(old, new, costs, value):
        """Whether any value is an end table."""
        check_given(old, new, costs)
        if not is_table(old, new, value):
            return False
        return is_begin_numbers(old[::-1], new[::-1], costs, turned_table(value))
