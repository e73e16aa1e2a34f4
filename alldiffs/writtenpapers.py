"""WRITTEN PAPERS: they show that a merge is sure, and its row."""

from alldiffs.rows import is_row
from alldiffs.shapes import is_whole
from alldiffs.walking import beginning, is_of_all_states


def written_paper(merge):
    """The row of a sure merge, and its WRITTEN PAPER."""
    row, walk = merge.row(), merge.walk
    numbers = {beginning(merge): 0}
    for gap in range(walk.gaps()):
        for state in walk.states_at(gap):
            behind = [(other, numbers[state] + len(tokens)) for tokens, other in walk.steps(state)]
            numbers.update({other: number for other, number in behind if other is not None})
    return (row, numbers)


def is_written_paper(merge, row, value):
    """Whether any value is a WRITTEN PAPER for any row."""
    if not is_row(row) or not is_of_all_states(merge.walk, value):
        return False
    if not all([is_whole(number) for number in value.values()]) or value[beginning(merge)] != 0:
        return False
    return all([is_written_on(merge.walk, row, value, state) for state in value])


def is_written_on(walk, row, numbers, state):
    """Whether all steps from a state write what the row has behind as many tokens as the state's number tells."""
    rest = row[numbers[state]:]
    for tokens, other in walk.steps(state):
        if rest[:len(tokens)] != tokens:
            return False
        if other is None and len(rest) != len(tokens):
            return False
        if other is not None and numbers[other] != numbers[state] + len(tokens):
            return False
    return True
