"""The WEB of all least ways."""

from alldiffs.errors import InvalidPlace
from alldiffs.shapes import is_spot, is_tuple
from alldiffs.tables import Tables


def least_steps(tables, place):
    """The places to which steps of least ways lead from a place of the web."""
    return tuple([other for other in tables.onward(place) if tables.slack(place, other) == 0])


def is_step_shape(value):
    """Whether any value is a tuple of two tuples of two INTEGERS, as steps are."""
    return is_tuple(value, 2) and is_spot(value[0]) and is_spot(value[1])


class Web:
    """The places and the steps of all least ways of two TEXTS and costs."""

    def __init__(self, old, new, costs):
        tables = Tables(old, new, costs)
        begin, end, total = tables.begin_table, tables.end_table, tables.total
        grid = [(i, j) for i in range(len(old) + 1) for j in range(len(new) + 1)]
        places = [(i, j) for i, j in grid if begin[i][j] + end[i][j] == total]
        self._old = list(old)
        self._new = list(new)
        self._costs = costs
        self._onward = {place: least_steps(tables, place) for place in places}

    @property
    def old(self):
        """The text old."""
        return list(self._old)

    @property
    def new(self):
        """The text new."""
        return list(self._new)

    @property
    def costs(self):
        """The costs."""
        return self._costs

    def places(self):
        """The sorted list of the places."""
        return sorted(self._onward)

    def steps(self, place):
        """The list of the steps of a place, in the sequence GO, PAIR, COME."""
        if not is_spot(place) or place not in self._onward:
            raise InvalidPlace(place)
        return [(place, other) for other in self._onward[place]]

    def __contains__(self, value):
        if is_step_shape(value):
            return value[1] in self._onward.get(value[0], ())
        return is_spot(value) and value in self._onward

    def is_way(self, value):
        """Whether any value is a least way."""
        if not isinstance(value, tuple) or len(value) == 0 or not all([is_spot(place) for place in value]):
            return False
        if value[0] != (0, 0) or value[-1] != (len(self._old), len(self._new)):
            return False
        return all([step in self for step in zip(value, value[1:])])

    def ways(self):
        """Yields all least ways, the one with the earlier step where two part first."""
        way = self.first_way()
        while way is not None:
            yield way
            way = self._way_behind(way)

    def _way_behind(self, way):
        """The least way that follows another one, None if that is the last one."""
        for at in reversed(range(len(way) - 1)):
            places = self._onward[way[at]]
            later = places[places.index(way[at + 1]) + 1:]
            if later:
                return self._led_on(way[:at + 1] + later[:1], 0)
        return None

    def _led_on(self, way, which):
        """The way that begins so, and then takes the first step (0) or the last one (-1) of each place."""
        places = list(way)
        while places[-1] != (len(self._old), len(self._new)):
            places.append(self._onward[places[-1]][which])
        return tuple(places)

    def first_way(self):
        """The first least way."""
        return self._led_on([(0, 0)], 0)

    def last_way(self):
        """The last least way."""
        return self._led_on([(0, 0)], -1)

    def cuts(self):
        """The sorted list of the places that all least ways pass."""
        # All ways run between the first and the last one, so they meet where these two do.
        last = self.last_way()
        return [place for place in self.first_way() if place in last]

    def __eq__(self, other):
        return (
            isinstance(other, Web)
            and self._old == other._old
            and self._new == other._new
            and self._costs == other._costs
        )
