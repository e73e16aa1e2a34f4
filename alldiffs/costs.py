"""What it costs that LINES go and come."""

from alldiffs.errors import InvalidCosts
from alldiffs.shapes import is_tuple, is_within
from alldiffs.texts import is_line


def is_cost(value):
    """Whether this is an INTEGER that a LINE may cost."""
    return is_within(value, 1, Costs.MOST)


def check_costs(costs):
    """Raises InvalidCosts for what is no Costs."""
    if not isinstance(costs, Costs):
        raise InvalidCosts("costs", costs)


def check_own(some):
    """Raises InvalidCosts with the first wrong item of LINES and their own costs."""
    for line, own in some.items():
        if not is_line(line):
            raise InvalidCosts("line", line)
        if not (is_tuple(own, 2) and is_cost(own[0]) and is_cost(own[1])):
            raise InvalidCosts("own", own)


class Costs:
    """Two numbers for all LINES, and for some LINES two of their own."""

    MOST = 999999

    def __init__(self, going=1, coming=1, some=None):
        if not is_cost(going):
            raise InvalidCosts("going", going)
        if not is_cost(coming):
            raise InvalidCosts("coming", coming)
        given = {} if some is None else some
        if not isinstance(given, dict):
            raise InvalidCosts("some", some)
        check_own(given)
        self._plain = (going, coming)
        self._own = {line: given[line] for line in sorted(given) if given[line] != self._plain}

    def going(self, line):
        """What it costs that this LINE goes."""
        return self._of(line)[0]

    def coming(self, line):
        """What it costs that this LINE comes."""
        return self._of(line)[1]

    def _of(self, line):
        if not is_line(line):
            raise InvalidCosts("line", line)
        return self._own.get(line, self._plain)

    @property
    def plain(self):
        """The two numbers for all LINES."""
        return self._plain

    def some(self):
        """The LINES whose costs are not these two numbers, sorted, with their costs."""
        return {line: own for line, own in self._own.items()}

    def turned_about(self):
        """A Costs with going and coming exchanged."""
        going, coming = self._plain
        own = {line: (comes, goes) for line, (goes, comes) in self._own.items()}
        return Costs(coming, going, own)

    def __contains__(self, line):
        return is_line(line) and line in self._own

    def __len__(self):
        return len(self._own)

    def __eq__(self, other):
        return isinstance(other, Costs) and self._plain == other._plain and self._own == other._own

    def __repr__(self):
        return f"Costs({self._plain[0]}, {self._plain[1]}, {self._own!r})"
