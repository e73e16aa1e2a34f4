"""The errors of the package.

The values that an error holds may be of any kind, so no message shows them.
"""


class InputError(ValueError):
    """An argument is not what it has to be."""


class InvalidText(InputError):
    def __init__(self, value):
        super().__init__("this is no text: a list of at most 60 lines")
        self.value = value


class InvalidCosts(InputError):
    def __init__(self, problem, value):
        super().__init__("these are no costs: see the fields problem and value")
        self.problem = problem
        self.value = value


class InvalidDiff(InputError):
    def __init__(self, value):
        super().__init__("this is no diff of these texts")
        self.value = value


class InvalidLine(InputError):
    def __init__(self, number):
        super().__init__("this is no number of a line")
        self.number = number


class InvalidScript(InputError):
    def __init__(self, index):
        super().__init__("this is no script, or it does not fit: see the field index")
        self.index = index


class InvalidPlace(InputError):
    def __init__(self, value):
        super().__init__("this is no place")
        self.value = value


class InvalidStep(InputError):
    def __init__(self, value):
        super().__init__("this is no step")
        self.value = value


class InvalidFace(InputError):
    def __init__(self, value):
        super().__init__("this is no face")
        self.value = value


class InvalidChoice(InputError):
    def __init__(self, value):
        super().__init__("this is no choice that can be told here")
        self.value = value


class InvalidReading(InputError):
    def __init__(self, value):
        super().__init__("this is no reading that is left")
        self.value = value


class InvalidCount(InputError):
    def __init__(self, value):
        super().__init__("this is no number within the bounds")
        self.value = value


class InvalidAnswer(InputError):
    def __init__(self, value):
        super().__init__("this is no answer, or no statement, for these texts")
        self.value = value


class InvalidRow(InputError):
    def __init__(self, value):
        super().__init__("this is no row")
        self.value = value


class InvalidResolution(InputError):
    def __init__(self, index):
        super().__init__("the sides do not resolve the clashes: see the field index")
        self.index = index


class InvalidVersion(InputError):
    def __init__(self, value):
        super().__init__("this is no version")
        self.value = value


class InvalidPick(InputError):
    def __init__(self, value):
        super().__init__("this is no pick")
        self.value = value


class InvalidState(InputError):
    def __init__(self, value):
        super().__init__("this is no state")
        self.value = value


class InvalidName(InputError):
    def __init__(self, value):
        super().__init__("this is no name: one to twelve letters a to z")
        self.value = value


class InvalidForm(InputError):
    def __init__(self, number):
        super().__init__("this form cannot be read: see the field number")
        self.number = number


class InvalidClaim(InputError):
    def __init__(self, value):
        super().__init__("this is no claim")
        self.value = value


class MissingError(LookupError):
    """Something that is asked for is not there."""


class UnknownName(MissingError):
    def __init__(self, name):
        super().__init__("there is no text of this name")
        self.name = name


class StateError(RuntimeError):
    """What is asked for does not go with how things stand."""


class NotLeast(StateError):
    def __init__(self, cost):
        super().__init__("this diff is not least: see the field cost")
        self.cost = cost


class Settled(StateError):
    def __init__(self, choice):
        super().__init__("this choice is settled otherwise: see the field choice")
        self.choice = choice


class NotSure(StateError):
    def __init__(self, matters):
        super().__init__("this is not sure: see the field matters")
        self.matters = matters


class Clashes(StateError):
    def __init__(self, positions):
        super().__init__("this row has clashes: see the field positions")
        self.positions = positions


class NothingToUndo(StateError):
    def __init__(self):
        super().__init__("there is nothing to undo")


class NoQuestion(StateError):
    def __init__(self):
        super().__init__("there is no question")


class LimitError(ArithmeticError):
    """Something is larger than the document allows."""


class TooLarge(LimitError):
    def __init__(self, kind, limit):
        super().__init__("this is too large: see the fields kind and limit")
        self.kind = kind
        self.limit = limit
