"""LINES, TEXTS and their PAIRS."""

from alldiffs.errors import InvalidText
from alldiffs.shapes import is_list

MOST = 60


def is_line(value):
    """Whether this is a LINE; for any value."""
    return isinstance(value, str) and "\n" not in value


def is_text(value):
    """Whether this is a TEXT; for any value."""
    return is_list(value) and len(value) <= MOST and all([is_line(line) for line in value])


def check_texts(*texts):
    """Raises InvalidText with the first of these that is no TEXT."""
    for text in texts:
        if not is_text(text):
            raise InvalidText(text)


def all_pairs(old, new):
    """The sorted list of all PAIRS of two TEXTS."""
    check_texts(old, new)
    return [
        (i, j)
        for i, line in enumerate(old, start=1)
        for j, other in enumerate(new, start=1)
        if line == other
    ]


def common_ends(old, new):
    """How many first lines are ALIKE, and how many last ones behind these."""
    check_texts(old, new)
    first = alike_first(old, new)
    last = alike_first(old[first:][::-1], new[first:][::-1])
    return (first, last)


def alike_first(lines, others):
    """How many first lines of both are ALIKE."""
    many = 0
    for line, other in zip(lines, others):
        if line != other:
            break
        many += 1
    return many
