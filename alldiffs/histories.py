"""HISTORIES: several versions of a text, one behind the other, and where their lines come from."""

from alldiffs.cores import core_of_crossings, parted_readings, possible_values, told_by_crossing
from alldiffs.costs import check_costs
from alldiffs.errors import InvalidChoice, InvalidLine, InvalidPick, InvalidVersion
from alldiffs.mergecores import Merge
from alldiffs.readings import Readings
from alldiffs.shapes import is_list, is_spot, is_tuple, is_within
from alldiffs.texts import check_texts


def crossings_of_new(readings):
    """A dict from the numbers of all lines of new to the lists of their crossings, from above to below."""
    crossings = {j: [] for j in range(1, len(readings.new) + 1)}
    for place in readings.places():
        for step in readings.steps(place):
            if place[1] < step[1][1]:
                crossings[step[1][1]].append(step)
    return {j: sorted(steps, reverse=True) for j, steps in crossings.items()}


def reading_with_mate(readings, line, mate):
    """A reading in which a line of new has a mate that it may have."""
    answer = ("mate", line)
    told = {value: reading for value, reading in possible_values(readings, answer)}
    return told[mate]


class Mates:
    """What the mates of the lines of new may be, None among them for one that may come, and what they depend on."""

    def __init__(self, readings):
        self._may_be = {}
        self._cores = {}
        for line, crossings in crossings_of_new(readings).items():
            answer = ("mate", line)
            self._may_be[line] = tuple([told_by_crossing(answer, step) for step in crossings])
            self._cores[line] = tuple(core_of_crossings(readings, answer, crossings))

    def may_be(self, line):
        """What the mate of a line may be; some of it may be told twice."""
        return self._may_be[line]

    def core(self, line):
        """The choices that the mate of a line depends on."""
        return self._cores[line]


class History:
    """Versions of a text, with the readings of each change from one to the next."""

    MOST = 12

    def __init__(self, versions, costs):
        if not is_list(versions) or not 2 <= len(versions) <= History.MOST:
            raise InvalidVersion(versions)
        check_texts(*versions)
        check_costs(costs)
        self._take([Readings(old, new, costs) for old, new in zip(versions, versions[1:])])

    @classmethod
    def of(cls, *texts, costs):
        """The history of these versions."""
        return cls(texts, costs)

    def _take(self, changes):
        self._changes = changes
        self._versions = [changes[0].old] + [readings.new for readings in changes]
        self._mates = [Mates(readings) for readings in changes]

    def texts(self):
        """The list of the versions."""
        return [list(text) for text in self._versions]

    def readings(self, k):
        """The Readings of a change, with what is settled."""
        if not is_within(k, 1, len(self._changes)):
            raise InvalidVersion(k)
        return self._changes[k - 1]

    def count(self):
        """How many picks there are."""
        many = 1
        for readings in self._changes:
            many = many * readings.count()
        return many

    def _check_pick(self, value):
        if not is_tuple(value, len(self._changes)):
            raise InvalidPick(value)
        if not all([reading in readings for reading, readings in zip(value, self._changes)]):
            raise InvalidPick(value)

    def _check_version(self, value):
        if not is_within(value, 0, len(self._versions) - 1):
            raise InvalidVersion(value)

    def _check_line(self, version, line):
        self._check_version(version)
        if not is_within(line, 1, len(self._versions[version])):
            raise InvalidLine(line)

    def origins(self, pick, version):
        """The list of the ORIGINS of all lines of a version, in a pick."""
        self._check_pick(pick)
        self._check_version(version)
        origins = [(0, line) for line in range(1, len(self._versions[0]) + 1)]
        for k in range(1, version + 1):
            mates = {j: i for i, j in self._changes[k - 1].diff_of(pick[k - 1])}
            lines = list(range(1, len(self._versions[k]) + 1))
            origins = [origins[mates[line] - 1] if line in mates else (k, line) for line in lines]
        return origins

    def _led_to(self, version, line):
        """A dict from each version, this one first, to the list of its lines to which the chain of a line may come."""
        led = {version: [line]}
        for k in range(version, 0, -1):
            mates = [mate for at in led[k] for mate in self._mates[k - 1].may_be(at) if mate is not None]
            led[k - 1] = sorted(set(mates))
        return led

    def core(self, version, line):
        """The sorted tuple of the choices that the ORIGIN of a line depends on."""
        self._check_line(version, line)
        led = self._led_to(version, line)
        core = [(k, choice) for k in led if k > 0 for at in led[k] for choice in self._mates[k - 1].core(at)]
        return tuple(sorted(set(core)))

    def is_sure(self, version, line):
        """Whether a line has the same ORIGIN in all picks."""
        return self.core(version, line) == ()

    def possible(self, version, line):
        """The sorted list of all ORIGINS that a line may have."""
        self._check_line(version, line)
        led = self._led_to(version, line)
        return sorted([
            (k, at) for k in led for at in led[k] if k == 0 or None in self._mates[k - 1].may_be(at)
        ])

    def parted(self, version, line, choice):
        """Two picks that differ in a choice of the core alone, with unlike ORIGINS of a line; the one without it first.
        """
        core = self.core(version, line)
        if not is_spot(choice) or choice not in core:
            raise InvalidChoice(choice)
        k, number = choice
        chain = self._chain_down_to(version, line, choice)
        without = [readings.first() for readings in self._changes]
        having = list(without)
        without[k - 1], having[k - 1] = parted_readings(self._changes[k - 1], ("mate", chain[0]), number)
        for at, (mate, other) in enumerate(zip(chain, chain[1:]), start=k):
            without[at] = having[at] = reading_with_mate(self._changes[at], other, mate)
        return (tuple(without), tuple(having))

    def _chain_down_to(self, version, line, choice):
        """The lines of a chain of pairs, told from its end: the mate of the first one depends on a choice of the core.
        """
        led = self._led_to(version, line)
        k, number = choice
        chain = [[at for at in led[k] if number in self._mates[k - 1].core(at)][0]]
        for later in range(k + 1, version + 1):
            chain.append([at for at in led[later] if chain[-1] in self._mates[later - 1].may_be(at)][0])
        return chain

    def blame(self, version):
        """Yields for each line of a version the tuple (its number, its possible ORIGINS)."""
        self._check_version(version)
        for line in range(1, len(self._versions[version]) + 1):
            yield (line, self.possible(version, line))

    def settled(self, k, choice, made):
        """The History in which a choice of a change is settled, too."""
        left = self.readings(k).settled(choice, made)
        # Two texts without lines cost nothing; all that they tell is replaced.
        history = History([[], []], left.costs)
        history._take([left if at == k else readings for at, readings in enumerate(self._changes, start=1)])
        return history

    def undone(self, k):
        """The Merge that undoes a change in the last version."""
        readings = self.readings(k)
        return Merge(readings.new, readings.old, self._versions[-1], readings.costs)

    def carried(self, k, text):
        """The Merge that carries a change over to a text."""
        readings = self.readings(k)
        return Merge(readings.old, readings.new, text, readings.costs)

    def __len__(self):
        return len(self._versions)

    def __eq__(self, other):
        return isinstance(other, History) and self._changes == other._changes

    def __repr__(self):
        return f"History({len(self._versions)})"
