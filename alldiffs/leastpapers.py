"""PAPERS that show that a diff is least, and that a statement is true of every least diff."""

from alldiffs.diffs import cost_of, is_diff
from alldiffs.errors import InvalidAnswer
from alldiffs.shapes import is_tuple, is_within
from alldiffs.tables import Tables, all_steps, check_given, is_pair_step, step_cost


def least_paper(old, new, costs):
    """A LEAST PAPER."""
    tables = Tables(old, new, costs)
    return (tables.diff(), tables.begin_table)


def is_least_paper(old, new, costs, value):
    """Whether any value is a LEAST PAPER."""
    check_given(old, new, costs)
    if not is_tuple(value, 2) or not is_diff(old, new, value[0]):
        return False
    diff, begin = value
    return Tables.is_begin(old, new, costs, begin) and begin[-1][-1] == cost_of(old, new, diff, costs)


def is_statement(old, new, value):
    """Whether any value is a STATEMENT for two TEXTS."""
    if not is_tuple(value, 2) or not isinstance(value[1], bool):
        return False
    answer = value[0]
    if not isinstance(answer, tuple) or len(answer) == 0 or not isinstance(answer[0], str):
        return False
    if answer[0] == "pair":
        return len(answer) == 3 and is_within(answer[1], 1, len(old)) and is_within(answer[2], 1, len(new))
    if answer[0] == "goes":
        return len(answer) == 2 and is_within(answer[1], 1, len(old))
    return answer[0] == "comes" and len(answer) == 2 and is_within(answer[1], 1, len(new))


def check_statement(old, new, statement):
    """Raises InvalidAnswer for what is no STATEMENT."""
    if not is_statement(old, new, statement):
        raise InvalidAnswer(statement)


def steps_against(old, new, statement):
    """The steps AGAINST a statement: those over its line that tell the other value."""
    answer, value = statement
    over = [step for step in all_steps(old, new) if is_over(answer, step)]
    return [step for step in over if told_by(answer, step) != value]


def is_over(answer, step):
    """Whether a step is one over the line of an answer; each way takes just one of these."""
    (i, j), (k, n) = step
    if answer[0] == "comes":
        return j < n and n == answer[1]
    return i < k and k == answer[1]


def told_by(answer, step):
    """Whether the answer is true of the diffs of the ways with this step over its line."""
    if answer[0] == "pair":
        return is_pair_step(step) and step[1] == (answer[1], answer[2])
    return not is_pair_step(step)


def beyond_least(old, new, costs, statement):
    """How much more than D the diffs cost of which a statement is not true; None if there is none."""
    tables = Tables(old, new, costs)
    check_statement(old, new, statement)
    return min([tables.slack(one, other) for one, other in steps_against(old, new, statement)], default=None)


def is_sure_statement(old, new, costs, statement):
    """Whether a statement is true of every least diff."""
    return beyond_least(old, new, costs, statement) != 0


def statement_paper(old, new, costs, statement):
    """A STATEMENT PAPER, None if the statement is not sure."""
    if not is_sure_statement(old, new, costs, statement):
        return None
    tables = Tables(old, new, costs)
    return (tables.diff(), tables.begin_table, tables.end_table)


def is_statement_paper(old, new, costs, statement, value):
    """Whether any value is a STATEMENT PAPER for a statement."""
    check_given(old, new, costs)
    check_statement(old, new, statement)
    if not is_tuple(value, 3) or not is_diff(old, new, value[0]):
        return False
    diff, begin, end = value
    if not Tables.is_begin(old, new, costs, begin) or not Tables.is_end(old, new, costs, end):
        return False
    cost = cost_of(old, new, diff, costs)
    return all([
        begin[i][j] + step_cost(old, new, costs, ((i, j), (k, n))) + end[k][n] > cost
        for (i, j), (k, n) in steps_against(old, new, statement)
    ])
