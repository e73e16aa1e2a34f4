"""CORES: the choices that an ANSWER depends on."""

from alldiffs.answers import check_answer, value_of
from alldiffs.errors import InvalidChoice, NotSure
from alldiffs.measures import prices_of
from alldiffs.shapes import is_tuple, is_whole
from alldiffs.tables import is_pair_step


def crossings_of(readings, answer):
    """The CROSSINGS, from above to below, of the line that an ANSWER is about."""
    steps = [step for place in readings.places() for step in readings.steps(place)]
    if answer[0] in ("comes", "mate"):
        over = [step for step in steps if step[0][1] + 1 == answer[1] == step[1][1]]
        return sorted(over, reverse=True)
    return sorted([step for step in steps if step[0][0] + 1 == answer[1] == step[1][0]])


def told_by_crossing(answer, step):
    """The value of an ANSWER about a line in the readings whose ways take this crossing."""
    kind, (i, j) = answer[0], step[1]
    if kind == "pair":
        return is_pair_step(step) and j == answer[2]
    if kind in ("goes", "comes"):
        return not is_pair_step(step)
    if not is_pair_step(step):
        return None
    return j if kind == "partner" else i


def core_of_line(readings, answer):
    """The choices that an ANSWER about a line depends on."""
    return core_of_crossings(readings, answer, crossings_of(readings, answer))


def core_of_crossings(readings, answer, crossings):
    """The choices between neighbouring crossings that an ANSWER about a line is unlike for."""
    return [
        readings.known.below(step) for step, other in zip(crossings, crossings[1:])
        if told_by_crossing(answer, step) != told_by_crossing(answer, other)
    ]


def core_of(readings, answer):
    """The CORE of an ANSWER."""
    check_answer(readings, answer)
    if answer[0] == "measure":
        prices = prices_of(readings, answer)
        return tuple([choice for choice in prices if prices[choice] != 0])
    if answer[0] == "all":
        return tuple(sorted(set([choice for part in answer[1:] for choice in core_of(readings, part)])))
    return tuple(sorted(set(core_of_line(readings, answer))))


def is_sure(readings, answer):
    """Whether an ANSWER has the same value in all readings that are left."""
    return core_of(readings, answer) == ()


def sure_value(readings, answer):
    """The value that an ANSWER has in all readings that are left."""
    core = core_of(readings, answer)
    if core:
        raise NotSure(core)
    return value_of(readings, readings.first(), answer)


def is_enough(readings, answer, *choices):
    """Whether an ANSWER has the same value in any two readings that have the same ones of these choices."""
    core = core_of(readings, answer)
    free = readings.free()
    for choice in choices:
        if not is_whole(choice) or choice not in free:
            raise InvalidChoice(choice)
    return all([choice in choices for choice in core])


def parted_readings(readings, answer, choice):
    """Two readings that differ in a choice alone, with unlike values; None if the choice does not matter."""
    core = core_of(readings, answer)
    readings.known.check_choice(choice)
    if choice not in core:
        return None
    having = readings.made(readings.first(), choice)
    return (tuple([other for other in having if other != choice]), having)


def is_parted(readings, answer, choice, value):
    """Whether any value is a tuple of two such readings."""
    check_answer(readings, answer)
    readings.known.check_choice(choice)
    if not is_tuple(value, 2) or value[0] not in readings or value[1] not in readings:
        return False
    without, having = value
    if tuple(sorted([*without, choice])) != having:
        return False
    return value_of(readings, without, answer) != value_of(readings, having, answer)


def fates_of(readings, answer):
    """The list of the FATES of the line of an ANSWER of the kind "partner" or "mate"."""
    check_answer(readings, answer, "partner", "mate")
    fates = []
    for step in crossings_of(readings, answer):
        fate = told_by_crossing(answer, step)
        if fates[-1:] != [fate]:
            fates.append(fate)
    return fates


def possible_values(readings, answer):
    """Yields for each value of an ANSWER about a line the tuple (value, a reading that has it)."""
    check_answer(readings, answer, "pair", "goes", "comes", "partner", "mate")
    steps = {told_by_crossing(answer, step): step for step in crossings_of(readings, answer)}
    # None is sorted ahead of the numbers, which are all greater than 0.
    for value in sorted(steps, key=lambda told: told or 0):
        yield (value, readings.through(steps[value]))
