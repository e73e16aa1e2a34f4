"""KNOTS: the blocks of two versions of a base that meet."""

from alldiffs.diffs import blocks_of, check_diff
from alldiffs.texts import check_texts


def check_versions(base, one, two, diff_one, diff_two):
    """Raises InvalidText, then InvalidDiff, with the first of these that is none."""
    check_texts(base, one, two)
    check_diff(base, one, diff_one)
    check_diff(base, two, diff_two)


def covered_by(block):
    """The first and the last position that a BLOCK covers."""
    a, b, c, d = block
    return (2 * a, 2 * b) if c < d else (2 * a + 1, 2 * b - 1)


def knots_of(base, one, two, diff_one, diff_two):
    """The list of the KNOTS, in their sequence."""
    check_versions(base, one, two, diff_one, diff_two)
    told = [(covered_by(block), 0, block) for block in blocks_of(base, one, diff_one)]
    told = told + [(covered_by(block), 1, block) for block in blocks_of(base, two, diff_two)]
    knots, reached = [], -1
    for (first, last), version, block in sorted(told):
        if first > reached:
            knots.append(([], []))
        knots[-1][version].append(block)
        reached = max(reached, last)
    return [(tuple(ones), tuple(twos)) for ones, twos in knots]


def bounds_of(knot):
    """The BOUNDS of a knot."""
    blocks = knot[0] + knot[1]
    return (min([block[0] for block in blocks]), max([block[1] for block in blocks]))


def stretch_of(knot):
    """The first and the last position that a knot covers."""
    covered = [covered_by(block) for block in knot[0] + knot[1]]
    return (min([first for first, _ in covered]), max([last for _, last in covered]))


def lines_come(text, block):
    """The list of the LINES that come in a block."""
    _, _, c, d = block
    return list(text[c:d])


def kind_of(knot, one, two):
    """The KIND of a knot of these versions."""
    ones, twos = knot
    if all([c == d for _, _, c, d in ones + twos]):
        return "going"
    if len(ones + twos) == 1:
        return "one" if ones else "two"
    if len(ones) == len(twos) == 1 and ones[0][:2] == twos[0][:2]:
        return "alike" if lines_come(one, ones[0]) == lines_come(two, twos[0]) else "clash"
    return "clash"
