"""COMMON PAPERS: they show that no pick of a merge has numbers less than a bound."""

from alldiffs.common import added, weighed_steps
from alldiffs.shapes import is_spot
from alldiffs.walking import beginning, is_of_all_states


def common_paper(merge):
    """A COMMON PAPER for the common numbers: the least numbers that steps to each state add up to."""
    least = {beginning(merge): (0, 0)}
    for gap in range(merge.walk.gaps()):
        for state in merge.walk.states_at(gap):
            for _, other, weight in weighed_steps(merge, state):
                numbers = added(least[state], weight)
                if other is not None and numbers <= least.get(other, numbers):
                    least[other] = numbers
    return least


def is_common_paper(merge, bound, value):
    """Whether any value is a COMMON PAPER for any bound."""
    if not is_spot(bound) or not is_of_all_states(merge.walk, value):
        return False
    if not all([is_spot(numbers) for numbers in value.values()]) or value[beginning(merge)] != (0, 0):
        return False
    return all([is_kept_by_steps(merge, bound, value, state) for state in value])


def is_kept_by_steps(merge, bound, paper, state):
    """Whether all steps from a state lead to no greater numbers than theirs, and last ones to at least the bound."""
    for _, other, weight in weighed_steps(merge, state):
        numbers = added(paper[state], weight)
        if (other is None and numbers < bound) or (other is not None and paper[other] > numbers):
            return False
    return True
