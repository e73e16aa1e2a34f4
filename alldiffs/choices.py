"""CHOICES: the faces of a web that least diffs differ by."""

from alldiffs.errors import InvalidChoice
from alldiffs.faces import Faces, reached_from
from alldiffs.shapes import is_within
from alldiffs.tables import diff_of_way
from alldiffs.webs import Web


def near_choices(further, numbers):
    """For each choice the sorted tuple of the choices to which nothing but blank faces leads from it.

    further tells for each face the faces that are one further, numbers its number as a choice, None if it is blank.
    """
    through_blank = [row if number is None else [] for number, row in zip(numbers, further)]
    return [
        tuple([numbers[face] for face in reached_from(row, through_blank) if numbers[face] is not None])
        for number, row in zip(numbers, further)
        if number is not None
    ]


def is_rising_tuple(value, high):
    """Whether any value is a sorted tuple of different INTEGERS from 0 to high."""
    if not isinstance(value, tuple) or not all([is_within(number, 0, high) for number in value]):
        return False
    return all([one < other for one, other in zip(value, value[1:])])


class Choices:
    """The choices of two TEXTS and costs, numbered from 0, and which of them are ahead of which."""

    def __init__(self, old, new, costs):
        self._take(Web(old, new, costs))

    @classmethod
    def of(cls, web):
        """The choices of a web."""
        # Texts without lines cost nothing; all that they tell is replaced.
        known = cls([], [], web.costs)
        known._take(web)
        return known

    def _take(self, web):
        self._web = web
        self._faces = Faces(web)
        self._choices = self._faces.choices()
        self._numbers = {face: number for number, face in enumerate(self._choices)}
        self._of_faces = [self._numbers.get(face) for face in self._faces]
        self._face_numbers = [at for at, number in enumerate(self._of_faces) if number is not None]
        self._rows_ahead = self._faces.rows_ahead()
        self._rows_behind = self._faces.rows_behind()
        self._near_ahead = near_choices(self._rows_ahead, self._of_faces)
        self._near_behind = near_choices(self._rows_behind, self._of_faces)

    def __len__(self):
        return len(self._choices)

    @property
    def web(self):
        """The web."""
        return self._web

    def check_choice(self, value):
        """Raises InvalidChoice for what is no choice."""
        if not is_within(value, 0, len(self._choices) - 1):
            raise InvalidChoice(value)

    def face(self, choice):
        """The face that a choice is."""
        self.check_choice(choice)
        return self._choices[choice]

    def begin(self, choice):
        """The place at which both sides of a choice begin."""
        return self.face(choice)[0][0]

    def end(self, choice):
        """The place at which both sides of a choice end."""
        return self.face(choice)[0][-1]

    def pairs(self, choice):
        """The pairs of the upper side of a choice, and those of its lower side."""
        upper, lower = self.face(choice)
        return (diff_of_way(upper), diff_of_way(lower))

    def ahead(self, choice):
        """The sorted tuple of the choices ahead of a choice."""
        self.check_choice(choice)
        return tuple(reached_from(self._near_ahead[choice], self._near_ahead))

    def behind(self, choice):
        """The sorted tuple of the choices that a choice is ahead of."""
        self.check_choice(choice)
        return tuple(reached_from(self._near_behind[choice], self._near_behind))

    def above(self, step):
        """The choice on whose lower side a step is, None if there is no face or a blank one."""
        return self._numbers.get(self._faces.above(step))

    def below(self, step):
        """The choice on whose upper side a step is, None if there is no face or a blank one."""
        return self._numbers.get(self._faces.below(step))

    def is_closed(self, value):
        """Whether any value is a sorted tuple of different choices that has all choices ahead of each of its own."""
        if not is_rising_tuple(value, len(self._choices) - 1):
            return False
        chosen = set(value)
        return all([other in chosen for choice in value for other in self._near_ahead[choice]])

    def near_ahead(self, choice):
        """The sorted tuple of the choices ahead of a choice with nothing but blank faces between."""
        return self._near_ahead[choice]

    def near_behind(self, choice):
        """The sorted tuple of the choices that a choice is ahead of with nothing but blank faces between."""
        return self._near_behind[choice]

    def face_above(self, step):
        """The number, among all faces, of the face above a step of the web, None at the border."""
        return self._faces.number_above(step)

    def face_below(self, step):
        """The number, among all faces, of the face below a step of the web, None at the border."""
        return self._faces.number_below(step)

    def faces_ahead(self, choices):
        """The numbers of the faces of these choices and of all faces ahead of them, blank ones, too."""
        return reached_from([self._face_numbers[choice] for choice in choices], self._rows_ahead)

    def faces_behind(self, choices):
        """The numbers of the faces of these choices and of all faces behind them, blank ones, too."""
        return reached_from([self._face_numbers[choice] for choice in choices], self._rows_behind)

    def choices_up_to(self, faces):
        """The sorted tuple of the choices among faces, told by their numbers, and all faces ahead of them."""
        found = [self._of_faces[face] for face in reached_from(faces, self._rows_ahead)]
        return tuple([choice for choice in found if choice is not None])

    def __eq__(self, other):
        return isinstance(other, Choices) and self._web == other._web
