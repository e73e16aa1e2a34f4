"""ANSWERS, and their values in readings."""

from alldiffs.diffs import come_lines, gone_lines, partner_of, turned_about
from alldiffs.errors import InvalidAnswer
from alldiffs.shapes import is_spot, is_tuple, is_within

MOST_WEIGHT = 999999
MOST_TOGETHER = 8


def is_answer(readings, value):
    """Whether any value is an ANSWER for the texts of a Readings."""
    old, new = readings.old, readings.new
    if isinstance(value, tuple) and 2 <= len(value) <= 1 + MOST_TOGETHER and is_word(value[0], ("all",)):
        return all([is_single(old, new, answer) for answer in value[1:]])
    return is_single(old, new, value)


def is_word(value, words):
    """Whether any value is one of these strings."""
    return isinstance(value, str) and value in words


def is_single(old, new, value):
    """Whether any value is an ANSWER of another kind than "all"."""
    if is_tuple(value, 2) and is_word(value[0], ("goes", "partner")):
        return is_within(value[1], 1, len(old))
    if is_tuple(value, 2) and is_word(value[0], ("comes", "mate")):
        return is_within(value[1], 1, len(new))
    if is_tuple(value, 3) and is_word(value[0], ("pair",)):
        return is_within(value[1], 1, len(old)) and is_within(value[2], 1, len(new))
    return is_tuple(value, 4) and is_word(value[0], ("measure",)) and is_weighing(old, new, value)


def is_weighing(old, new, value):
    """Whether the items behind the first one are dicts from lines of old, lines of new and tuples of both to WEIGHTS.
    """
    _, going, coming, pairs = value
    if not all([isinstance(weights, dict) for weights in (going, coming, pairs)]):
        return False
    weights = list(going.values()) + list(coming.values()) + list(pairs.values())
    if not all([is_within(weight, -MOST_WEIGHT, MOST_WEIGHT) for weight in weights]):
        return False
    lines = all([is_within(i, 1, len(old)) for i in going]) and all([is_within(j, 1, len(new)) for j in coming])
    return lines and all([is_spot(at) and 1 <= at[0] <= len(old) and 1 <= at[1] <= len(new) for at in pairs])


def check_answer(readings, value, *kinds):
    """Raises InvalidAnswer for what is no ANSWER, or none of these kinds, if some are told."""
    if not is_answer(readings, value) or (kinds and value[0] not in kinds):
        raise InvalidAnswer(value)


def value_of(readings, reading, answer):
    """The value of an ANSWER in a reading."""
    diff = readings.diff_of(reading)
    check_answer(readings, answer)
    return value_in_diff(readings.old, readings.new, diff, answer)


def value_in_diff(old, new, diff, answer):
    """What an ANSWER tells of a DIFF."""
    kind, at = answer[0], answer[1]
    if kind == "all":
        return tuple([value_in_diff(old, new, diff, part) for part in answer[1:]])
    if kind == "measure":
        return weight_of_diff(old, new, diff, answer)
    if kind == "pair":
        return (at, answer[2]) in diff
    if kind in ("goes", "partner"):
        partner = partner_of(old, new, diff, at)
    else:
        partner = partner_of(new, old, turned_about(old, new, diff), at)
    return partner is None if kind in ("goes", "comes") else partner


def weight_of_diff(old, new, diff, answer):
    """The sum of the weights that a measure has for a DIFF."""
    _, going, coming, pairs = answer
    gone = [going.get(i, 0) for i in gone_lines(old, new, diff)]
    come = [coming.get(j, 0) for j in come_lines(old, new, diff)]
    return sum(gone) + sum(come) + sum([pairs.get(pair, 0) for pair in diff])
