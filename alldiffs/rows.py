"""MERGED ROWS: what two versions of a base say together."""

from alldiffs.costs import check_costs
from alldiffs.diffs import come_lines, gone_lines
from alldiffs.errors import Clashes, InvalidResolution, InvalidRow
from alldiffs.knots import bounds_of, check_versions, kind_of, knots_of, lines_come, stretch_of
from alldiffs.shapes import is_list, is_tuple, is_whole
from alldiffs.texts import MOST, is_line

MOST_TOKENS = 180


def merged(base, one, two, diff_one, diff_two):
    """The MERGED ROW."""
    return tuple([token for token, _ in tokens_with_origins(base, one, two, diff_one, diff_two)])


def token_origins(base, one, two, diff_one, diff_two):
    """The list of the ORIGINS of the tokens of the merged row."""
    origins, clashed = [], 0
    for token, origin in tokens_with_origins(base, one, two, diff_one, diff_two):
        origins.append(("clash", clashed) if is_clash(token) else origin)
        clashed += 1 if is_clash(token) else 0
    return origins


def is_clash(token):
    """Whether a token is a clash, no LINE."""
    return isinstance(token, tuple)


def tokens_with_origins(base, one, two, diff_one, diff_two):
    """The tokens of the merged row, each with its ORIGIN, or None for a clash."""
    knots = knots_of(base, one, two, diff_one, diff_two)
    fates = line_fates(base, one, two, diff_one, diff_two)
    parts = [(2 * i - 1, [(base[i - 1], ("base", i))]) for i, fate in enumerate(fates, start=1) if fate == "stands"]
    for knot in knots:
        parts.append((stretch_of(knot)[0], tokens_of_knot(knot, base, one, two, diff_one, diff_two)))
    return [token for _, told in sorted(parts, key=lambda part: part[0]) for token in told]


def tokens_of_knot(knot, base, one, two, diff_one, diff_two):
    """The tokens of a knot, each with its ORIGIN, or None for a clash."""
    kind = kind_of(knot, one, two)
    if kind == "clash":
        a, b = bounds_of(knot)
        lines_one = lines_within(one, diff_one, knot[0], a, b)
        return [(("clash", a, b, lines_one, lines_within(two, diff_two, knot[1], a, b)), None)]
    if kind == "one":
        return [(one[j - 1], (1, j)) for j in numbers_come(knot[0])]
    if kind == "two":
        return [(two[k - 1], (2, k)) for k in numbers_come(knot[1])]
    if kind == "alike":
        return [(one[j - 1], ("both", j, k)) for j, k in zip(numbers_come(knot[0]), numbers_come(knot[1]))]
    return []


def numbers_come(blocks):
    """The list of the numbers of the lines that come in some blocks of a version."""
    return [j for _, _, c, d in blocks for j in range(c + 1, d + 1)]


def lines_within(text, diff, blocks, a, b):
    """The LINES of a version that come in these blocks or are kept of the base's lines from a + 1 to b."""
    kept = [j for i, j in diff if a < i <= b]
    return tuple([text[j - 1] for j in sorted(kept + numbers_come(blocks))])


def line_fates(base, one, two, diff_one, diff_two):
    """The list of the FATES of the lines of the base."""
    knots = knots_of(base, one, two, diff_one, diff_two)
    fates = ["stands" for _ in base]
    for knot in knots:
        first, last = stretch_of(knot)
        fate = "clash" if kind_of(knot, one, two) == "clash" else "gone"
        for i in range(1, len(base) + 1):
            if first <= 2 * i - 1 <= last:
                fates[i - 1] = fate
    return fates


def cost_together(base, one, two, diff_one, diff_two, costs):
    """The COST TOGETHER of two diffs."""
    check_versions(base, one, two, diff_one, diff_two)
    check_costs(costs)
    gone = sorted(set(gone_lines(base, one, diff_one) + gone_lines(base, two, diff_two)))
    come = [one[j - 1] for j in come_lines(base, one, diff_one)] + [two[k - 1] for k in come_lines(base, two, diff_two)]
    knots = knots_of(base, one, two, diff_one, diff_two)
    alike = [ones[0] for ones, twos in knots if kind_of((ones, twos), one, two) == "alike"]
    twice = [line for block in alike for line in lines_come(one, block)]
    going = sum([costs.going(base[i - 1]) for i in gone])
    return going + sum([costs.coming(line) for line in come]) - sum([costs.coming(line) for line in twice])


def is_row(value):
    """Whether any value is a ROW."""
    if not isinstance(value, tuple) or len(value) > MOST_TOKENS:
        return False
    return all([is_line(token) or is_clash_of_lines(token) for token in value])


def is_clash_of_lines(value):
    """Whether any value is a CLASH."""
    if not is_tuple(value, 5) or not isinstance(value[0], str) or value[0] != "clash":
        return False
    _, a, b, ones, twos = value
    if not is_whole(a) or not is_whole(b) or not 0 <= a <= b <= MOST:
        return False
    return is_tuple_of_lines(ones) and is_tuple_of_lines(twos)


def is_tuple_of_lines(value):
    """Whether any value is a tuple of LINES that a version may have in a clash."""
    return isinstance(value, tuple) and len(value) <= MOST and all([is_line(line) for line in value])


def check_row(row):
    """Raises InvalidRow for what is no ROW."""
    if not is_row(row):
        raise InvalidRow(row)


def clashes(row):
    """The list of the positions of the clashes of a ROW."""
    check_row(row)
    return [at for at, token in enumerate(row) if is_clash(token)]


def text_of(row):
    """The list of the LINES of a ROW without clashes."""
    positions = clashes(row)
    if positions:
        raise Clashes(tuple(positions))
    return list(row)


def swapped(row):
    """The ROW with the lines of both versions exchanged in each clash."""
    check_row(row)
    return tuple([(*token[:3], token[4], token[3]) if is_clash(token) else token for token in row])


def is_side(value):
    """Whether any value tells what stands in the place of a clash."""
    if isinstance(value, str):
        return value in ("one", "two", "both", "none")
    return is_list(value) and all([is_line(line) for line in value])


def lines_of_side(clash, side):
    """The list of the LINES that a side puts in the place of a clash."""
    _, _, _, ones, twos = clash
    if not isinstance(side, str):
        return list(side)
    if side == "none":
        return []
    return list(ones if side == "one" else twos if side == "two" else ones + twos)


def resolved(row, *sides):
    """The list of the LINES of a ROW in which each side stands in the place of the clash of its number."""
    positions = clashes(row)
    for at, side in enumerate(sides):
        if at >= len(positions) or not is_side(side):
            raise InvalidResolution(at)
    if len(sides) < len(positions):
        raise InvalidResolution(len(sides))
    chosen = {position: side for position, side in zip(positions, sides)}
    lines = []
    for at, token in enumerate(row):
        lines.extend(lines_of_side(token, chosen[at]) if at in chosen else [token])
    return lines
