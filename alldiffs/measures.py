"""What choices add to a measure, and its greatest and least values."""

from alldiffs.answers import check_answer, value_of
from alldiffs.faces import side_steps
from alldiffs.shapes import is_spot, is_tuple, is_whole
from alldiffs.tables import diff_of_way, is_pair_step


def weight_of_step(answer, step):
    """The weight that a measure has for a step."""
    _, going, coming, pairs = answer
    (i, _), (k, n) = step
    if is_pair_step(step):
        return pairs.get((k, n), 0)
    return going.get(k, 0) if i < k else coming.get(n, 0)


def weight_of_side(answer, side):
    """The sum of the weights of the steps of a side."""
    return sum([weight_of_step(answer, step) for step in side_steps(side)])


def price_of(readings, answer, choice):
    """The PRICE of a choice, settled or not, for a measure."""
    check_answer(readings, answer, "measure")
    return price_of_face(answer, readings.known.face(choice))


def price_of_face(answer, face):
    """The sum of the weights of the lower side of a face, less that of its upper side."""
    upper, lower = face
    return weight_of_side(answer, lower) - weight_of_side(answer, upper)


def prices_of(readings, answer):
    """A dict from the free choices to their PRICES."""
    check_answer(readings, answer, "measure")
    return {choice: price_of_face(answer, readings.known.face(choice)) for choice in readings.free()}


def greatest_value(readings, answer):
    """The greatest value of a measure, and a PAPER that shows it."""
    check_answer(readings, answer, "measure")
    return extreme_value(readings, answer, 1)


def least_value(readings, answer):
    """The least value of a measure, and a PAPER that shows it."""
    check_answer(readings, answer, "measure")
    return extreme_value(readings, answer, -1)


def extreme_value(readings, answer, sign):
    """The value that, times sign, is the greatest one, and its PAPER."""
    heights = {(0, 0): 0}
    before = {}
    # Sorted, each place stands behind all that lead to it.
    for place in readings.places():
        for step in readings.steps(place):
            height = heights[place] + weight_of_step(answer, step)
            if step[1] not in heights or height * sign > heights[step[1]] * sign:
                heights[step[1]] = height
                before[step[1]] = place
    end = (len(readings.old), len(readings.new))
    reading = readings.reading_of(diff_of_way(way_to(end, before)))
    return (heights[end], (reading, heights))


def way_to(end, before):
    """The way to a place, of a dict that tells for each place the one before it."""
    way = [end]
    while way[-1] in before:
        way.append(before[way[-1]])
    return way[::-1]


def is_extreme(readings, answer, number, value, *, least=False):
    """Whether any value is a PAPER that any number is the greatest, or the least, value of a measure."""
    check_answer(readings, answer, "measure")
    if not is_whole(number) or not is_tuple(value, 2) or value[0] not in readings:
        return False
    reading, heights = value
    if not is_heights(readings, heights) or value_of(readings, reading, answer) != number:
        return False
    if heights[(0, 0)] != 0 or heights[(len(readings.old), len(readings.new))] != number:
        return False
    rises = [
        heights[step[1]] - heights[step[0]] - weight_of_step(answer, step)
        for place in readings.places() for step in readings.steps(place)
    ]
    return all([rise <= 0 if least else rise >= 0 for rise in rises])


def is_heights(readings, value):
    """Whether any value is a dict with an INTEGER for each place that is left, and no other key."""
    if not isinstance(value, dict) or not all([is_spot(place) for place in value]):
        return False
    return sorted(value) == readings.places() and all([is_whole(height) for height in value.values()])
