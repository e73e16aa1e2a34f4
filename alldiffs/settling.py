"""Questions about an ANSWER, asked one after the other until it is sure."""

from alldiffs.answers import check_answer
from alldiffs.cores import core_of, sure_value
from alldiffs.errors import InvalidChoice, NothingToUndo
from alldiffs.shapes import is_whole


def copied_answer(answer):
    """The ANSWER with dicts of its own."""
    if answer[0] == "all":
        return ("all", *[copied_answer(part) for part in answer[1:]])
    if answer[0] == "measure":
        return ("measure", *[{at: weights[at] for at in weights} for weights in answer[1:]])
    return answer


class Standing:
    """How a Settling stands where a with statement begins, and how it stood where the one around that began."""

    def __init__(self, reached, asked, begun):
        self.reached = reached
        self.asked = asked
        self.begun = begun


class Settling:
    """What of a Readings is left while choices that matter to an ANSWER are settled."""

    def __init__(self, readings, answer):
        check_answer(readings, answer)
        self._answer = copied_answer(answer)
        self._reached = ((readings, core_of(readings, self._answer)),)
        self._asked = ()
        self._begun = Standing(self._reached, self._asked, None)

    @classmethod
    def about(cls, readings, *answers):
        """The Settling of several answers at once."""
        return cls(readings, ("all", *answers))

    @property
    def left(self):
        """The Readings of now."""
        return self._reached[-1][0]

    @property
    def answer(self):
        """The answer."""
        return copied_answer(self._answer)

    def core(self):
        """The core of now."""
        return self._reached[-1][1]

    def is_sure(self):
        """Whether the answer is sure now."""
        return self.core() == ()

    def outcome(self):
        """The value that is sure now."""
        return sure_value(self.left, self._answer)

    def settle(self, choice, *, made=True):
        """Settles a choice of the core of now."""
        if choice not in self:
            raise InvalidChoice(choice)
        left = self.left.settled(choice, made)
        self._reached = (*self._reached, (left, core_of(left, self._answer)))
        self._asked = (*self._asked, (choice, made))

    def undo(self):
        """Makes the choice that was asked last free again."""
        if len(self._asked) == len(self._begun.asked):
            raise NothingToUndo()
        self._reached = self._reached[:-1]
        self._asked = self._asked[:-1]

    def log(self):
        """The list of the tuples (choice, made), in the order in which they were asked."""
        return list(self._asked)

    def __enter__(self):
        self._begun = Standing(self._reached, self._asked, self._begun)
        return self

    def __exit__(self, kind, value, trace):
        self._reached = self._begun.reached
        self._asked = self._begun.asked
        self._begun = self._begun.begun

    def __contains__(self, choice):
        # Not self.core(): methods are told apart by their names alone, and other ones called core keep what they find.
        return is_whole(choice) and choice in self._reached[-1][1]

    def questions(self):
        """Yields the choices of the core of the moment in which it begins."""
        yield from self.core()

    def __repr__(self):
        return f"Settling({self._answer[0]!r}, {len(self._asked)})"


def looked_ahead(settling, pairs):
    """The core of a Settling, and that behind each of these tuples (choice, made); it is left as it was."""
    cores = [settling.core()]
    with settling:
        for choice, made in pairs:
            settling.settle(choice, made=made)
            cores.append(settling.core())
    return cores
