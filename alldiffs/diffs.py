"""DIFFS, and what they say of the lines of two TEXTS."""

from alldiffs.costs import check_costs
from alldiffs.errors import InvalidDiff, InvalidLine
from alldiffs.shapes import is_spot, is_within
from alldiffs.texts import check_texts


def is_diff(old, new, value):
    """Whether any value is a DIFF of two TEXTS."""
    check_texts(old, new)
    if not isinstance(value, tuple):
        return False
    return all([is_pair(old, new, pair) for pair in value]) and is_rising(value)


def is_pair(old, new, value):
    """Whether any value is a PAIR of two TEXTS."""
    if not is_spot(value):
        return False
    i, j = value
    return 1 <= i <= len(old) and 1 <= j <= len(new) and old[i - 1] == new[j - 1]


def is_rising(pairs):
    """Whether both numbers of each pair are greater than those of the one ahead of it."""
    return all([i < k and j < n for (i, j), (k, n) in zip(pairs, pairs[1:])])


def check_diff(old, new, diff):
    """Raises InvalidText, then InvalidDiff, for what is none."""
    if not is_diff(old, new, diff):
        raise InvalidDiff(diff)


def cost_of(old, new, diff, costs):
    """The COST of a DIFF."""
    check_diff(old, new, diff)
    check_costs(costs)
    gone = sum([costs.going(old[i - 1]) for i in gone_lines(old, new, diff)])
    come = sum([costs.coming(new[j - 1]) for j in come_lines(old, new, diff)])
    return gone + come


def gaps_of(old, new, diff):
    """What stands ahead of each PAIR of a DIFF and behind the last one, as a BLOCK or nothing."""
    starts = [(0, 0), *diff]
    stops = [*diff, (len(old) + 1, len(new) + 1)]
    return [(a, i - 1, c, j - 1) for (a, c), (i, j) in zip(starts, stops)]


def blocks_of(old, new, diff):
    """The list of the BLOCKS of a DIFF."""
    check_diff(old, new, diff)
    return [(a, b, c, d) for a, b, c, d in gaps_of(old, new, diff) if a < b or c < d]


def gone_lines(old, new, diff):
    """The numbers of the lines of old that go."""
    kept = kept_lines(old, new, diff)
    return [i for i in range(1, len(old) + 1) if i not in kept]


def come_lines(old, new, diff):
    """The numbers of the lines of new that come."""
    check_diff(old, new, diff)
    paired = [j for _, j in diff]
    return [j for j in range(1, len(new) + 1) if j not in paired]


def kept_lines(old, new, diff):
    """The numbers of the lines of old that are kept."""
    check_diff(old, new, diff)
    return [i for i, _ in diff]


def partner_of(old, new, diff, i):
    """The number of the line of new that line i of old is paired with, None if it goes."""
    check_diff(old, new, diff)
    if not is_within(i, 1, len(old)):
        raise InvalidLine(i)
    partners = {k: j for k, j in diff}
    return partners.get(i)


def turned_about(old, new, diff):
    """The DIFF of new and old with the same lines paired."""
    check_diff(old, new, diff)
    return tuple([(j, i) for i, j in diff])


def turned_over(old, new, diff):
    """The DIFF of both TEXTS with their lines in reverse."""
    check_diff(old, new, diff)
    return tuple([(len(old) + 1 - i, len(new) + 1 - j) for i, j in diff[::-1]])


def joined_diffs(old, middle, new, first, second):
    """The DIFF of old and new that leads through a middle TEXT."""
    check_texts(old, middle, new)
    check_diff(old, middle, first)
    check_diff(middle, new, second)
    partners = {j: k for j, k in second}
    return tuple([(i, partners[j]) for i, j in first if j in partners])
