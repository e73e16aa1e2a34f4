import unittest
from itertools import combinations

from alldiffs.cores import (
    core_of, fates_of, is_enough, is_parted, is_sure, parted_readings, possible_values, sure_value,
)
from alldiffs.costs import Costs
from alldiffs.errors import InvalidAnswer, InvalidChoice, NotSure
from alldiffs.readings import Readings
from tests.search import Grudge, Liar, Plain, odd_values
from tests.test_answers import NO_ANSWERS, all_answers, plain_value, some_measures
from tests.test_choices import NO_CHOICES, XY, XYXY
from tests.test_measures import PAIRS
from tests.test_readings import LONG, MIXED, NO_READINGS, ReadingCase, all_left

LINE_KINDS = ("pair", "goes", "comes", "partner", "mate")
CALLS = [core_of, is_sure, sure_value, is_enough, fates_of]


def answers_of_all_kinds(old, new):
    """Answers of each kind for two texts."""
    single = all_answers(old, new) + some_measures(old, new)
    return single + [("all", *single[k:k + 3]) for k in range(0, len(single), 4)] + [("all", *single[-8:])]


def all_values():
    """(Readings, the readings that are left, answer, a dict from these to the values) of short texts."""
    for plain, readings, left in all_left():
        diffs = {reading: plain.diff_of(reading) for reading in left}
        for answer in answers_of_all_kinds(plain.old, plain.new):
            values = {told: plain_value(diffs[told], plain.old, plain.new, answer) for told in left}
            yield readings, left, answer, values


def parted(left, values, choice):
    """All tuples of two readings that are left, differ in the choice alone, and have unlike values."""
    found = []
    for one in left:
        other = tuple(sorted((*one, choice)))
        if choice not in one and other in values and values[one] != values[other]:
            found.append((one, other))
    return found


class Cores(ReadingCase):
    def setUp(self):
        self.readings = Readings(XYXY, XY, Costs())

    def test_the_examples(self):
        readings = Readings(["a", "b", "a"], ["a"], Costs())
        self.assertEqual([(0,), (), [1, None]], [
            core_of(readings, ("goes", 1)), core_of(readings, ("goes", 2)), fates_of(readings, ("partner", 3))
        ])
        self.assertEqual([(False, ()), (True, (0,))], list(possible_values(readings, ("pair", 1, 1))))
        self.assertEqual([None, 1], fates_of(readings, ("partner", 1)))
        self.assertEqual(((), True), (core_of(readings, ("measure", {1: 1, 2: 1, 3: 1}, {}, {})), sure_value(readings, ("goes", 2))))

    def test_cores_by_all_readings(self):
        for readings, left, answer, values in all_values():
            free = readings.free()
            core = tuple(choice for choice in free if parted(left, values, choice))
            self.assertEqual(core, core_of(readings, answer))
            sure = len({repr(value) for value in values.values()}) == 1
            self.assertIs(sure, is_sure(readings, answer))
            if sure:
                self.assertEqual(values[left[0]], sure_value(readings, answer))
            else:
                with self.assertRaises(NotSure) as caught:
                    sure_value(readings, answer)
                self.assertEqual(core, caught.exception.matters)

    def test_is_enough_by_all_readings(self):
        for readings, left, answer, values in list(all_values())[::5]:
            for chosen in [told for many in range(4) for told in combinations(readings.free(), many)][:12]:
                told = {}
                for reading in left:
                    told.setdefault(tuple(k for k in chosen if k in reading), set()).add(repr(values[reading]))
                enough = all(len(unlike) == 1 for unlike in told.values())
                self.assertIs(enough, is_enough(readings, answer, *chosen))
                self.assertIs(enough, is_enough(readings, answer, *chosen[::-1], *chosen))
            self.assertIs(True, is_enough(readings, answer, *readings.free()))
            self.assertIs(is_sure(readings, answer), is_enough(readings, answer))

    def test_parted_readings_by_all_readings(self):
        for readings, left, answer, values in all_values():
            for choice in range(len(readings.known)):
                told = parted_readings(readings, answer, choice)
                every = parted(left, values, choice)
                if not every:
                    self.assertIsNone(told)
                else:
                    self.assertIn(told, every)
                    self.assertIs(True, is_parted(readings, answer, choice, told))

    def test_is_parted_by_all_readings(self):
        for readings, left, answer, values in list(all_values())[::7]:
            for choice in range(len(readings.known)):
                every = parted(left, values, choice)
                for one in left:
                    for other in left:
                        told = is_parted(readings, answer, choice, (one, other))
                        self.assertIs((one, other) in every, told)

    def test_no_reading_that_is_not_left(self):
        answer = ("goes", 1)
        left = self.readings.settled(1, False)
        self.assertEqual(((), (0,)), parted_readings(readings=left, answer=answer, choice=0))
        self.assertIs(True, is_parted(value=((), (0,)), choice=0, answer=answer, readings=left))
        left = self.readings.settled(0, True)
        self.assertIsNone(parted_readings(left, answer, 0))
        self.assertIs(False, is_parted(left, answer, 0, ((), (0,))))
        left = self.readings.settled(0, False)
        self.assertEqual((None, None, False), (
            parted_readings(left, answer, 0), parted_readings(left, ("goes", 2), 1), is_parted(left, answer, 0, ((), (0,)))
        ))

    def test_arguments_by_their_names(self):
        readings, answer = self.readings, ("goes", 1)
        self.assertEqual(((0,), False, [None, 1], False), (
            core_of(answer=answer, readings=readings), is_sure(answer=answer, readings=readings),
            fates_of(answer=("partner", 1), readings=readings), is_enough(answer=answer, readings=readings),
        ))
        self.assertIs(False, sure_value(answer=("comes", 1), readings=readings))
        self.assertEqual(2, len(list(possible_values(answer=answer, readings=readings))))

    def test_settling_lessens_the_core(self):
        for plain, readings, left in all_left():
            for answer in answers_of_all_kinds(plain.old, plain.new)[::3]:
                core = core_of(readings, answer)
                for choice in core:
                    for made in (True, False):
                        behind = core_of(readings.settled(choice, made), answer)
                        self.assertTrue(set(behind) < set(core))

    def test_answers_refused_first(self):
        readings = self.readings
        for value in NO_ANSWERS + odd_values():
            for call in CALLS:
                self.refused(InvalidAnswer, value, call, readings, value)
            self.refused(InvalidAnswer, value, is_enough, readings, value, 9, "no")
            self.refused(InvalidAnswer, value, parted_readings, readings, value, 9)
            self.refused(InvalidAnswer, value, is_parted, readings, value, 9, None)
            self.refused(InvalidAnswer, value, lambda: next(possible_values(readings, value)))

    def test_choices_refused(self):
        readings, left, answer = self.readings, self.readings.settled(0, True), ("goes", 1)
        for value in NO_CHOICES + [value for value in odd_values() if not isinstance(value, int)] + [Liar(), Grudge()]:
            for call in (parted_readings, lambda *args: is_parted(*args, ((), (0,)))):
                self.refused(InvalidChoice, value, call, readings, answer, value)
                self.refused(InvalidChoice, value, call, readings, ("goes", 1), value)
            self.refused(InvalidChoice, value, is_enough, readings, answer, value)
            self.refused(InvalidChoice, value, is_enough, readings, answer, 0, 1, value, 7)
        self.refused(InvalidChoice, 0, is_enough, left, answer, 0)
        self.refused(InvalidChoice, 0, is_enough, left, answer, 1, 0, "no")
        self.refused(InvalidChoice, 5, is_enough, left, answer, 5, 0)
        self.refused(InvalidChoice, 1, is_enough, readings.settled(0, False), answer, 1)
        self.assertIs(True, is_enough(left, answer, 1, 1))

    def test_is_parted_for_any_value(self):
        readings, answer, good = self.readings, ("goes", 1), ((), (0,))
        self.assertIs(True, is_parted(readings, answer, 0, good))
        for value in odd_values() + [
            list(good), ((0,), ()), ((),), ((), (0,), (0,)), ((), ()), ((0,), (0,)), ((), (0, 1)), ((), (1,)),
            ((0,), (0, 1)), ((), [0]), ([], (0,)), ((), (False,)), ((), None), (None, (0,)), ((), Liar()),
            (Liar(), (0,)), ((), Grudge()), (Grudge(), (0,)), ((), 0), (0, 0), {(): (0,)}, ((), (0, 0)),
        ] + [(value, (0,)) for value in NO_READINGS] + [((), value) for value in NO_READINGS]:
            self.assertIs(False, is_parted(readings, answer, 0, value))
        self.assertEqual([False, True], [is_parted(readings, told, 1, ((0,), (0, 1))) for told in (answer, ("goes", 2))])

    def test_a_sum_that_is_alike_for_one_choice_of_several(self):
        self.assertEqual([(0, 1), (0,), (1,), ()], [
            core_of(self.readings, ("measure", {}, {}, weights)) for weights in (
                PAIRS[3], {(1, 1): 1}, {(4, 2): 1, (3, 1): 2, (1, 1): 2}, {(1, 1): 4, (3, 1): 4, (2, 1): 9}
            )
        ])

    def test_more_than_one_answer(self):
        readings = self.readings
        self.assertEqual((0, 1), core_of(readings, ("all", ("goes", 2), ("goes", 1), ("goes", 2))))
        self.assertEqual((1,), core_of(readings.settled(0, True), ("all", ("goes", 2), ("goes", 1))))
        self.assertEqual((False, 1, 2), sure_value(readings.settled(1, True), ("all", ("goes", 1), ("mate", 1), ("mate", 2))))
        with self.assertRaises(NotSure) as caught:
            sure_value(readings, ("all", ("comes", 1), ("mate", 1)))
        self.assertEqual((0,), caught.exception.matters)


class ReadOff(ReadingCase):
    def test_pairs_that_are_no_pairs(self):
        readings = Readings(XYXY, XY, Costs())
        self.assertEqual(((), False), (core_of(readings, ("pair", 1, 2)), sure_value(readings, ("pair", 1, 2))))
        self.assertEqual([False], [value for value, _ in possible_values(readings, ("pair", 1, 2))])
        left = readings.settled(0, True)
        self.assertEqual([(), ()], [core_of(left, ("pair", 3, 1)), core_of(left, ("pair", 1, 1))])
        self.assertEqual([False, True], [sure_value(left, ("pair", i, 1)) for i in (3, 1)])

    def test_fates_by_all_readings(self):
        for plain, readings, left in all_left():
            diffs = [plain.diff_of(reading) for reading in left]
            for kind, lines in (("partner", plain.old), ("mate", plain.new)):
                for at in range(1, len(lines) + 1):
                    found = {plain_value(diff, plain.old, plain.new, (kind, at)) for diff in diffs}
                    fates = fates_of(readings, (kind, at))
                    self.assertIs(list, type(fates))
                    self.assertEqual(found, set(fates))
                    self.assertTrue(all(one != other for one, other in zip(fates, fates[1:])))
                    told = [fate for fate in fates if fate is not None]
                    self.assertEqual(sorted(told, reverse=kind == "mate"), told)
                    self.assertEqual(self.fates_by_the_words(plain, diffs, kind, at), fates)

    def fates_by_the_words(self, plain, diffs, kind, at):
        """The fates, by the steps of all ways of some diffs."""
        steps = set()
        for way in plain.ways:
            if tuple(two for one, two in zip(way, way[1:]) if two == (one[0] + 1, one[1] + 1)) in diffs:
                steps |= set(zip(way, way[1:]))
        which = 0 if kind == "partner" else 1
        over = [(one, two) for one, two in steps if one[which] == at - 1 and two[which] == at]
        fates = []
        for one, two in sorted(over, reverse=kind == "mate"):
            fate = two[1 - which] if two == (one[0] + 1, one[1] + 1) else None
            if not fates or fates[-1] != fate:
                fates.append(fate)
        return fates

    def test_gone_paired_and_gone_again(self):
        readings = Readings(["a", "a", "a"], ["a"], Costs())
        self.assertEqual([[None, 1], [None, 1, None], [1, None]], [fates_of(readings, ("partner", i)) for i in (1, 2, 3)])
        self.assertEqual([3, 2, 1], fates_of(readings, ("mate", 1)))
        readings = Readings(["a"], ["a", "a", "a"], Costs())
        self.assertEqual([[1, None], [None, 1, None], [None, 1]], [fates_of(readings, ("mate", j)) for j in (1, 2, 3)])

    def test_possible_values_by_all_readings(self):
        for plain, readings, left in all_left():
            for answer in all_answers(plain.old, plain.new):
                values = {told: plain_value(plain.diff_of(told), plain.old, plain.new, answer) for told in left}
                told = list(possible_values(readings, answer))
                expected = sorted(set(values.values()), key=lambda value: value or 0)
                self.assertEqual(expected, [value for value, _ in told])
                self.assertEqual([repr(value) for value in expected], [repr(value) for value, _ in told])
                for value, reading in told:
                    self.assertEqual(value, values[reading])

    def test_other_kinds_refused(self):
        readings = Readings(XYXY, XY, Costs())
        for value in (("pair", 1, 1), ("goes", 1), ("comes", 1), PAIRS, ("all", ("partner", 1)), ("all", ("mate", 1))):
            self.refused(InvalidAnswer, value, fates_of, readings, value)
        for value in (PAIRS, ("all", ("goes", 1)), ("measure", {}, {}, {})):
            self.refused(InvalidAnswer, value, lambda: next(possible_values(readings, value)))
            self.assertEqual(tuple, type(core_of(readings, value)))

    def test_generators_beside_one_another(self):
        readings = Readings(["a", "a", "a"], ["a"], Costs())
        one, other = possible_values(readings, ("mate", 1)), possible_values(readings, ("goes", 1))
        self.assertEqual([1, False, 2, True, 3], [next(each)[0] for each in (one, other, one, other, one)])
        self.assertEqual([None, None], [next(one, None), next(other, None)])

    def test_what_is_told_is_new(self):
        readings = Readings(["a", "a", "a"], ["a"], Costs())
        for _ in range(2):
            fates = fates_of(readings, ("mate", 1))
            self.assertEqual([3, 2, 1], fates)
            fates.clear()

    def test_long_texts(self):
        readings = Readings(*LONG, Costs())
        for j in (1, 17, 30):
            self.assertEqual(list(range(j + 30, j - 1, -1)), fates_of(readings, ("mate", j)))
            core = core_of(readings, ("mate", j))
            self.assertEqual(30, len(core))
            told = list(possible_values(readings, ("mate", j)))
            self.assertEqual(list(range(j, j + 31)), [value for value, _ in told])
            for value, reading in told:
                self.assertIn((value, j), readings.diff_of(reading))
            for choice in core:
                two = parted_readings(readings, ("mate", j), choice)
                self.assertIs(True, is_parted(readings, ("mate", j), choice, two))
        fates = [fate for j in range(1, 31) for fate in (None, j)]
        self.assertEqual((fates, 59), (fates_of(readings, ("partner", 30)), len(core_of(readings, ("partner", 30)))))
        self.assertEqual((), core_of(readings, ("comes", 5)))
        self.assertEqual((), core_of(readings, ("measure", {i: 999999 for i in range(1, 61)}, {}, {})))
        left = readings.settled(400, True)
        left = left.settled(left.free()[300], False)
        for answer in (("mate", 16), ("partner", 31), ("goes", 31)):
            core = core_of(left, answer)
            self.assertTrue(set(core) <= set(core_of(readings, answer)) & set(left.free()))
            for value, reading in possible_values(left, answer):
                self.assertIs(True, reading in left)
            for choice in core:
                self.assertIs(True, is_parted(left, answer, choice, parted_readings(left, answer, choice)))

    def test_many_choices_that_do_not_touch(self):
        old = [line for k in range(15) for line in ("a", "b", "a", f"k{k}")]
        new = [line for k in range(15) for line in ("a", f"k{k}")]
        readings = Readings(old, new, Costs())
        self.assertEqual((tuple(range(15)), 2 ** 15), (readings.free(), readings.count()))
        for k in range(15):
            self.assertEqual(((k,), ()), (core_of(readings, ("goes", 4 * k + 1)), core_of(readings, ("goes", 4 * k + 2))))
            self.assertEqual([1 + 4 * k, 3 + 4 * k], sorted(fates_of(readings, ("mate", 1 + 2 * k))))
        answer = ("all", ("goes", 4 * 8 + 1), ("mate", 3), ("partner", 4 * 8 + 3), ("goes", 2))
        self.assertEqual((1, 8), core_of(readings, answer))
        left = readings.settled_as((1, True), (8, False))
        self.assertEqual((True, False, True, (True, 5, 17, True)), (
            is_enough(readings, answer, 14, 8, 1), is_enough(readings, answer, 8), is_sure(left, answer),
            sure_value(left, answer),
        ))

    def test_long_texts_of_two_letters(self):
        readings = Readings(*MIXED, Costs())
        cores = [core_of(readings, ("partner", i)) for i in range(1, 61)]
        self.assertTrue(all(core == tuple(sorted(set(core))) for core in cores))
        self.assertGreater(max(len(core) for core in cores), 10)
        together = core_of(readings, ("all", *[("partner", i) for i in range(1, 9)]))
        self.assertEqual(tuple(sorted({choice for core in cores[:8] for choice in core})), together)


class FactsOfShortTexts(unittest.TestCase):
    def test_cores_of_the_plain_faces(self):
        for old, new in (("aaaa", "aa"), ("xyxyx", "xyx"), ("babb", "bbaa")):
            plain, readings = Plain(list(old), list(new)), Readings(list(old), list(new), Costs())
            for number, (upper, lower) in enumerate(plain.choices):
                for side in (upper, lower):
                    for one, two in zip(side, side[1:]):
                        if two == (one[0] + 1, one[1] + 1):
                            self.assertIn(number, core_of(readings, ("pair", *two)))


if __name__ == "__main__":
    unittest.main()
