"""What the picks of a merge have most in common: the fewest clashes, and then the least cost together."""

from alldiffs.errors import InvalidCount, TooLarge
from alldiffs.rows import clashes, cost_together, is_clash
from alldiffs.shapes import is_within
from alldiffs.walking import beginning, kept_of, outline

MOST_ROWS = 50


def numbers_of(merge, pick):
    """The NUMBERS of a pick: how many clashes its row has, and the cost together of its diffs."""
    diff, other = merge.diffs_of(pick)
    cost = cost_together(merge.base, merge.version(1), merge.version(2), diff, other, merge.costs)
    return (len(clashes(merge.row_of(pick))), cost)


def added(numbers, weight):
    """Two tuples of numbers, added item by item."""
    return (numbers[0] + weight[0], numbers[1] + weight[1])


def weight_of(merge, state, nodes, tokens):
    """The WEIGHT of the step from a state with these chosen nodes, which writes these tokens."""
    costs = merge.costs
    gone, come = merge.walk.changes(state, nodes)
    cost = sum([costs.going(line) for line in gone]) + sum([costs.coming(line) for line in come])
    return (len([token for token in tokens if is_clash(token)]), cost)


def weighed_steps(merge, state):
    """The list of the tuples (tokens, state, WEIGHT) of all steps from a state."""
    steps = [(nodes, merge.walk.led(state, nodes)) for nodes in merge.walk.moves(state)]
    return [(tokens, other, weight_of(merge, state, nodes, tokens)) for nodes, (tokens, other) in steps]


def steps_to_end(merge, behind, state):
    """The list of the tuples (tokens, state, the least numbers from here to the end) of all steps from a state.

    behind tells the least numbers from each state that may follow to the end, by its outline.
    """
    return [
        (tokens, other, added(weight, behind[outline(other)])) for tokens, other, weight in weighed_steps(merge, state)
    ]


def numbers_behind(merge):
    """A dict from the outlines of the states to the least numbers that the steps from there to the end add up to."""
    behind = {None: (0, 0)}
    for gap in reversed(range(merge.walk.gaps())):
        for state in merge.outlines(1).states_at(gap):
            behind[outline(state)] = min([numbers for _, _, numbers in steps_to_end(merge, behind, state)])
    return behind


def common_steps(merge, behind, state):
    """The list of the tuples (tokens, state) of those steps from a state that lead to the end with least numbers."""
    steps = steps_to_end(merge, behind, state)
    return [(tokens, other) for tokens, other, numbers in steps if numbers == behind[outline(state)]]


def common_numbers(merge):
    """The COMMON NUMBERS: the least numbers of all picks."""
    return numbers_behind(merge)[outline(beginning(merge))]


def common_pick(merge):
    """A COMMON PICK: at each state it takes the first step that some common pick takes."""
    behind, states = numbers_behind(merge), [beginning(merge)]
    while states[-1] is not None:
        _, state = common_steps(merge, behind, states[-1])[0]
        states.append(state)
    return merge.pick_of(kept_of(states[:-1], 1), kept_of(states[:-1], 2))


def common_rows(merge, *, most=MOST_ROWS):
    """The list of the COMMON ROWS, the rows of all common picks, each once, in ROW ORDER."""
    if not is_within(most, 1, MOST_ROWS):
        raise InvalidCount(most)
    behind, rows = numbers_behind(merge), []
    waiting = [((), [(beginning(merge), ())])]
    while waiting and len(rows) <= most:
        row, front = waiting.pop()
        reached = reached_by(merge, behind, front)
        if (None, ()) in reached:
            rows.append(row)
        leading = by_first_token([(state, rest) for state, rest in reached if rest])
        # What is waiting last comes first.
        for token in sorted(leading, key=token_order, reverse=True):
            waiting.append(((*row, token), leading[token]))
    if len(rows) > most:
        raise TooLarge("rows", most)
    return rows


def reached_by(merge, behind, front):
    """Where common picks are as soon as they have written a token more, or are at the end.

    It is told by tuples, as those in front, of a state and of what has been written on the way to it, but is not yet
    in the row; of the states that write the same from there on, just one.
    """
    found = {}
    waiting = list(front)
    while waiting:
        state, rest = waiting.pop()
        key = (None if state is None else merge.walk.brief(state), rest)
        if key not in found:
            found[key] = (state, rest)
            steps = [] if state is None or rest else common_steps(merge, behind, state)
            waiting.extend([(other, tokens) for tokens, other in steps])
    return [(state, rest) for state, rest in found.values() if state is None or rest]


def by_first_token(front):
    """A dict from the first tokens that are written, but not yet in the row, to what then is in front."""
    leading = {}
    for state, rest in front:
        leading.setdefault(rest[0], []).append((state, rest[1:]))
    return leading


def token_order(token):
    """What tokens are sorted by: a LINE is less than a clash."""
    return (is_clash(token), token)
