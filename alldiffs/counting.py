"""How many ways a DIFF has."""

from math import comb

from alldiffs.diffs import blocks_of


def order_count(old, new, diff):
    """The number of ORDERS of a DIFF."""
    many = 1
    for a, b, c, d in blocks_of(old, new, diff):
        many = many * comb(b - a + d - c, b - a)
    return many
