"""The FACES between the steps of a web."""

from alldiffs.errors import InvalidFace, InvalidStep
from alldiffs.shapes import is_spot, is_tuple
from alldiffs.tables import is_pair_step
from alldiffs.webs import is_step_shape


def face_between(web, first, second):
    """The face that begins with two steps of a place, its upper side with the first one."""
    upper, lower = list(first), list(second)
    # Each step adds to i + j, so the side with the lesser sum cannot have passed the end yet.
    while upper[-1] != lower[-1]:
        if sum(upper[-1]) <= sum(lower[-1]):
            upper.append(web.steps(upper[-1])[-1][1])
        else:
            lower.append(web.steps(lower[-1])[0][1])
    return (tuple(upper), tuple(lower))


def face_order(face):
    """What faces are sorted by."""
    upper, _ = face
    return (upper[0], upper[-1], upper)


def side_steps(side):
    """The list of the steps of a side."""
    return list(zip(side, side[1:]))


def is_blank(face):
    """Whether a face is BLANK."""
    upper, lower = face
    if len(upper) != 3 or len(lower) != 3:
        return False
    return not any([is_pair_step(step) for step in side_steps(upper) + side_steps(lower)])


def beside(side, numbers):
    """The sorted list of the numbers that a dict tells for the steps of a side."""
    return sorted(set([numbers[step] for step in side_steps(side) if step in numbers]))


def reached_from(starts, further):
    """The sorted list of these numbers and of all to which further leads from them.

    further tells for each number, as its position, the numbers that are one further.
    """
    reached = {}
    waiting = list(starts)
    while waiting:
        number = waiting.pop()
        if number not in reached:
            reached[number] = True
            waiting.extend(further[number])
    return sorted(reached)


def is_side_shape(value):
    """Whether any value is a tuple of tuples of two INTEGERS, as sides are."""
    return isinstance(value, tuple) and all([is_spot(place) for place in value])


class Faces:
    """All faces of a web, sorted by (begin, end, upper side)."""

    def __init__(self, web):
        starts = [web.steps(place) for place in web.places()]
        pairs = [pair for steps in starts for pair in zip(steps, steps[1:])]
        faces = sorted([face_between(web, first, second) for first, second in pairs], key=face_order)
        self._web = web
        self._faces = faces
        self._numbers = {face: number for number, face in enumerate(faces)}
        self._above = {step: number for number, (_, lower) in enumerate(faces) for step in side_steps(lower)}
        self._below = {step: number for number, (upper, _) in enumerate(faces) for step in side_steps(upper)}
        self._ahead = [beside(upper, self._above) for upper, _ in faces]
        self._behind = [beside(lower, self._below) for _, lower in faces]

    def __len__(self):
        return len(self._faces)

    def __iter__(self):
        return iter(self._faces)

    def blank(self):
        """The list of the blank faces."""
        return [face for face in self._faces if is_blank(face)]

    def choices(self):
        """The list of the faces that are choices, by their numbers."""
        return [face for face in self._faces if not is_blank(face)]

    def above(self, step):
        """The face on whose lower side a step is, None at the border."""
        self._check_step(step)
        return self._faces[self._above[step]] if step in self._above else None

    def below(self, step):
        """The face on whose upper side a step is, None at the border."""
        self._check_step(step)
        return self._faces[self._below[step]] if step in self._below else None

    def _check_step(self, step):
        if not is_step_shape(step) or step not in self._web:
            raise InvalidStep(step)

    def directly_ahead(self, face):
        """The list of the faces directly ahead of a face."""
        if not is_tuple(face, 2) or not is_side_shape(face[0]) or not is_side_shape(face[1]):
            raise InvalidFace(face)
        if face not in self._numbers:
            raise InvalidFace(face)
        return [self._faces[number] for number in self._ahead[self._numbers[face]]]

    def number_above(self, step):
        """The number, among all faces, of the face above a step of the web, None at the border."""
        return self._above.get(step)

    def number_below(self, step):
        """The number, among all faces, of the face below a step of the web, None at the border."""
        return self._below.get(step)

    def rows_ahead(self):
        """For each face the list of the numbers of those directly ahead of it."""
        return [list(row) for row in self._ahead]

    def rows_behind(self):
        """For each face the list of the numbers of those that it is directly ahead of."""
        return [list(row) for row in self._behind]
