import unittest

from alldiffs.answers import is_answer, value_of
from alldiffs.costs import Costs
from alldiffs.errors import InvalidAnswer, InvalidReading
from alldiffs.readings import Readings
from tests.search import Grudge, Liar, odd_values
from tests.test_choices import XY, XYXY
from tests.test_readings import LONG, NO_READINGS, ReadingCase, all_left

WEIGHTS = ("measure", {1: 2, 4: -3}, {2: 10 ** 5}, {(1, 1): 7, (4, 2): -999999, (2, 1): 999999})
# Answers for texts of four and of two lines, and what is none.
ANSWERS = [
    ("pair", 1, 1), ("pair", 4, 2), ("pair", 1, 2), ("goes", 1), ("goes", 4), ("comes", 1), ("comes", 2),
    ("partner", 1), ("partner", 4), ("mate", 1), ("mate", 2), ("measure", {}, {}, {}), WEIGHTS,
    ("all", ("goes", 1)), ("all", *[("goes", 1)] * 8), ("all", WEIGHTS, ("mate", 2), ("pair", 1, 1)),
    ("measure", {1: 999999}, {1: -999999}, {(1, 1): 0}),
]
NO_MEASURES = [
    ("measure",), ("measure", {}, {}), ("measure", {}, {}, {}, {}), ("measure", [], {}, {}), ("measure", {}, (), {}),
    ("measure", {}, {}, []), ("measure", None, {}, {}), ("measure", {}, {}, None), ("measure", {0: 1}, {}, {}),
    ("measure", {5: 1}, {}, {}), ("measure", {}, {0: 1}, {}), ("measure", {}, {3: 1}, {}), ("measure", {-1: 1}, {}, {}),
    ("measure", {True: 1}, {}, {}), ("measure", {}, {True: 1}, {}), ("measure", {"1": 1}, {}, {}),
    ("measure", {None: 1}, {}, {}), ("measure", {(1, 1): 1}, {}, {}), ("measure", {}, {}, {1: 1}),
    ("measure", {}, {}, {(1,): 1}), ("measure", {}, {}, {(1, 1, 1): 1}), ("measure", {}, {}, {(0, 1): 1}),
    ("measure", {}, {}, {(1, 0): 1}), ("measure", {}, {}, {(5, 1): 1}), ("measure", {}, {}, {(1, 3): 1}),
    ("measure", {}, {}, {(True, 1): 1}), ("measure", {}, {}, {(1, True): 1}), ("measure", {}, {}, {"11": 1}),
    ("measure", {}, {}, {(1, None): 1}), ("measure", {1: True}, {}, {}), ("measure", {}, {1: False}, {}),
    ("measure", {}, {}, {(1, 1): True}), ("measure", {1: 1000000}, {}, {}), ("measure", {1: -1000000}, {}, {}),
    ("measure", {}, {1: 1000000}, {}), ("measure", {}, {1: -10 ** 25}, {}), ("measure", {}, {}, {(1, 1): 1000000}),
    ("measure", {1: None}, {}, {}), ("measure", {}, {1: "1"}, {}), ("measure", {}, {}, {(1, 1): [1]}),
    ("measure", {1: Liar()}, {}, {}), ("measure", {}, {1: Grudge()}, {}), ("measure", {Liar(): 1}, {}, {}),
    ("measure", {}, {Liar(): 1}, {}), ("measure", {}, {}, {Liar(): 1}), ("measure", {}, {}, {(Liar(), 1): 1}),
    ("measure", {1: 1, 5: 1}, {}, {}), ("measure", {1: 1}, {2: 1, 3: 0}, {}), ("measure", {}, {}, {(1, 1): 1, (5, 5): 0}),
    ["measure", {}, {}, {}],
]
NO_SINGLES = [
    ["goes", 1], ("goes",), ("goes", 0), ("goes", 5), ("goes", -1), ("goes", True), ("goes", None), ("goes", "1"),
    ("goes", 1, 1), ("goes", (1,)), ("goes", [1]), ("comes", 0), ("comes", 3), ("comes", True), ("comes",),
    ("comes", 1, 2), ("partner", 0), ("partner", 5), ("partner", True), ("partner",), ("partner", 1, 1), ("mate", 0),
    ("mate", 3), ("mate", True), ("mate",), ("mate", 1, 1), ("pair",), ("pair", 1), ("pair", 1, 1, 1), ("pair", 0, 1),
    ("pair", 1, 0), ("pair", 5, 1), ("pair", 1, 3), ("pair", True, 1), ("pair", 1, True), ("pair", (1, 1)),
    ["pair", 1, 1], ("pair", 1, None), ("gone", 1), ("PAIR", 1, 1), ("goes", Liar()), ("goes", Grudge()),
    ("mate", Liar()), ("pair", Liar(), 1), ("pair", 1, Grudge()), (Liar(), 1), (Grudge(), 1), (Liar(), 1, 1), (None, 1),
    (b"goes", 1), (1, "goes"), (1, 1), ("goes", 10 ** 25), ("mate", -10 ** 25), "goes", ("goes 1",), ("", 1), (("goes",), 1),
    (("goes", 1), True), {"goes": 1}, ({}, {}, {}, {}), (Liar(), {}, {}, {}), ("measures", {}, {}, {}),
]
NO_ALLS = [
    ("all",), ("all", *[("goes", 1)] * 9), ("all", ("all", ("goes", 1))), ("all", ("goes", 1), ("all", ("goes", 1))),
    ("all", "goes", 1), ("all", ["goes", 1]), ["all", ("goes", 1)], ("all", (("goes", 1),)), ("all", [("goes", 1)]),
    ("all", ("goes", 1), None), ("all", None), ("all", Liar()), ("all", Grudge()), ("all", ("goes", 1), ("goes", 5)),
    ("all", ("goes", True)), ("all", ("all",)), ("all", ()), ("all", {}), (("goes", 1), ("goes", 2)), ("All", ("goes", 1)),
    ("all", ("goes", 1), Liar()), ("all", *[("goes", 1)] * 8, ("all", ("goes", 1))),
]
NO_ANSWERS = NO_MEASURES + NO_SINGLES + NO_ALLS + [("all", value) for value in NO_MEASURES + NO_SINGLES]


def all_answers(old, new):
    """Answers of each kind but "all" and "measure" for two texts."""
    lines, others = range(1, len(old) + 1), range(1, len(new) + 1)
    return (
        [(kind, i) for kind in ("goes", "partner") for i in lines]
        + [(kind, j) for kind in ("comes", "mate") for j in others] + [("pair", i, j) for i in lines for j in others]
    )


def some_measures(old, new):
    """Measures with weights of all sizes for two texts."""
    lines, others = range(1, len(old) + 1), range(1, len(new) + 1)
    both = [(i, j) for i in lines for j in others]
    return [
        ("measure", {}, {}, {}),
        ("measure", {i: 1 for i in lines}, {}, {}),
        ("measure", {i: i * i - 5 for i in lines}, {j: 3 - 2 * j for j in others}, {}),
        ("measure", {}, {}, {(i, j): (7 * i + 3 * j) % 5 - 2 for i, j in both}),
        ("measure", {i: 999999 for i in lines[::2]}, {j: -999999 for j in others[1:]}, {at: 999999 for at in both[::2]}),
        ("measure", {i: 2 for i in lines}, {}, {(i, j): 2 for i, j in both}),
        ("measure", {}, {j: j for j in others}, {(i, j): i for i, j in both if i != j}),
    ]


def plain_value(diff, old, new, answer):
    """The value of an answer, by a look at a diff."""
    kind, *told = answer
    partners, mates = dict(diff), {j: i for i, j in diff}
    if kind == "all":
        return tuple(plain_value(diff, old, new, part) for part in told)
    if kind == "pair":
        return tuple(told) in diff
    if kind in ("goes", "comes"):
        return told[0] not in (partners if kind == "goes" else mates)
    if kind in ("partner", "mate"):
        return (partners if kind == "partner" else mates).get(told[0])
    going, coming, pairs = told
    return (
        sum(weight for i, weight in going.items() if i not in partners)
        + sum(weight for j, weight in coming.items() if j not in mates)
        + sum(weight for pair, weight in pairs.items() if pair in diff)
    )


class Answers(ReadingCase):
    def setUp(self):
        self.readings = Readings(XYXY, XY, Costs())

    def test_is_answer_for_any_value(self):
        for value in ANSWERS:
            self.assertIs(True, is_answer(self.readings, value), value)
            self.assertIs(True, is_answer(readings=self.readings.settled(1, True), value=value))
        for value in NO_ANSWERS + odd_values():
            self.assertIs(False, is_answer(self.readings, value))

    def test_answers_for_texts_without_lines(self):
        readings = Readings([], [], Costs())
        for value in ANSWERS:
            self.assertIs(value == ("measure", {}, {}, {}), is_answer(readings, value))
        for old, new, fitting in (
            (["a"], [], [("goes", 1), ("partner", 1)]), ([], ["a"], [("comes", 1), ("mate", 1)]),
        ):
            readings = Readings(old, new, Costs())
            for value in (("goes", 1), ("partner", 1), ("comes", 1), ("mate", 1), ("pair", 1, 1)):
                self.assertIs(value in fitting, is_answer(readings, value))
                self.assertIs(value in fitting, is_answer(readings, ("all", value)))

    def test_each_kind(self):
        told = [value_of(self.readings, (0,), answer) for answer in ANSWERS]
        self.assertEqual([
            True, True, False, False, False, False, False, 1, 2, 1, 4, 0, 7 - 999999, (False,), (False,) * 8,
            (7 - 999999, 4, True), 0,
        ], told)
        answer = ("all", ("goes", 2), ("goes", 3), ("partner", 2), ("partner", 3), ("measure", {2: 5, 3: 6}, {}, {}))
        self.assertEqual((True, True, None, None, 11), value_of(self.readings, (0,), answer))
        readings = Readings(["a"], ["b", "b"], Costs())
        answer = ("all", ("comes", 1), ("mate", 2), ("goes", 1), ("measure", {1: 1}, {1: 10, 2: 100}, {(1, 1): 1000}))
        self.assertEqual((True, None, True, 111), value_of(readings, (), answer))
        self.assertEqual(7 - 999999, value_of(answer=WEIGHTS, reading=(0,), readings=self.readings))

    def test_values_by_a_look_at_each_diff(self):
        for plain, readings, left in all_left():
            answers = all_answers(plain.old, plain.new)
            answers += some_measures(plain.old, plain.new)
            answers += [("all", *answers[::3][:7]), ("all", *answers[-8:])]
            for reading in left[:4]:
                diff = plain.diff_of(reading)
                for answer in answers:
                    value = value_of(readings, reading, answer)
                    self.assertEqual(plain_value(diff, plain.old, plain.new, answer), value)
                    self.assertEqual(type(plain_value(diff, plain.old, plain.new, answer)), type(value))

    def test_refused(self):
        for value in NO_READINGS + odd_values():
            self.refused(InvalidReading, value, value_of, self.readings, value, ("goes", 1))
            self.refused(InvalidReading, value, value_of, self.readings, value, None)
        for value in NO_ANSWERS + odd_values():
            self.refused(InvalidAnswer, value, value_of, self.readings, (0,), value)
        left = self.readings.settled(0, True)
        self.refused(InvalidReading, (), value_of, left, (), ("goes", 1))
        self.refused(InvalidAnswer, ("goes", 5), value_of, left, (0,), ("goes", 5))

    def test_long_texts(self):
        readings = Readings(*LONG, Costs())
        answer = (
            "measure", {i: 999999 for i in range(1, 61)}, {j: 1 for j in range(1, 31)},
            {(i, j): -999999 for i in range(1, 61) for j in range(1, 31)},
        )
        self.assertEqual((0, 30 * 999999 * 0), (value_of(readings, (), answer), 0))
        self.assertEqual((30, 31, None, 60), value_of(readings, (), (
            "all", ("measure", {i: 1 for i in range(1, 61)}, {}, {}), ("mate", 1), ("partner", 30), ("mate", 30)
        )))
        self.assertIs(True, is_answer(readings, ("all", *[answer] * 8)))

    def test_arguments_stay_as_they_are(self):
        going, coming, pairs = {1: 5}, {2: 7}, {(1, 1): 3}
        answer = ("all", ("measure", going, coming, pairs), ("goes", 1))
        self.assertEqual(value_of(self.readings, (), answer), value_of(self.readings, (), answer))
        self.assertEqual(({1: 5}, {2: 7}, {(1, 1): 3}), (going, coming, pairs))


if __name__ == "__main__":
    unittest.main()
