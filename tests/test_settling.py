import unittest

from alldiffs.cores import core_of, is_sure
from alldiffs.costs import Costs
from alldiffs.errors import InvalidAnswer, InvalidChoice, NothingToUndo, NotSure, Settled
from alldiffs.readings import Readings
from alldiffs.settling import Settling, looked_ahead
from tests.search import Grudge, Liar, odd_values, some_texts
from tests.test_answers import NO_ANSWERS, WEIGHTS, all_answers, plain_value, some_measures
from tests.test_choices import NO_CHOICES, XY, XYXY, costs_of
from tests.test_readings import LONG, MIXED, ReadingCase

BOTH = ("all", ("goes", 1), ("goes", 2))


class Stop(Exception):
    """An error of its own, to end a with statement."""


def answers_together(old, new):
    """Answers of all kinds for two texts, several of them at once."""
    single = all_answers(old, new) + some_measures(old, new)[1:4]
    return [("all", *single[k:k + 4]) for k in range(0, len(single), 5)] + single[::6]


class SettlingTest(ReadingCase):
    def setUp(self):
        self.readings = Readings(list("aaaa"), list("aa"), Costs())
        self.settling = Settling(self.readings, ("partner", 2))

    def test_a_new_one(self):
        settling, readings = self.settling, self.readings
        self.assertEqual((readings, ("partner", 2), [], "Settling('partner', 0)"), (
            settling.left, settling.answer, settling.log(), repr(settling)
        ))
        core = core_of(readings, ("partner", 2))
        self.assertEqual((core, list(core), False), (settling.core(), list(settling.questions()), settling.is_sure()))
        self.assertGreater(len(core), 1)
        with self.assertRaises(NotSure) as caught:
            settling.outcome()
        self.assertEqual(core, caught.exception.matters)
        self.assertRaises(NothingToUndo, settling.undo)
        self.assertEqual((readings, core), (Settling(answer=("partner", 2), readings=readings).left, settling.core()))

    def test_settled_until_it_is_sure(self):
        for old, new, going, coming in some_texts():
            readings = Readings(old, new, costs_of(going, coming))
            for answer in answers_together(old, new):
                for turn in range(3):
                    self.ask_through(readings, answer, turn)

    def ask_through(self, readings, answer, turn):
        settling, log, left = Settling(readings, answer), [], readings
        cores = [settling.core()]
        while settling.core():
            choice = settling.core()[len(log) * 5 * turn % len(settling.core())]
            made = (len(log) + turn) % 2 == 0
            self.assertIs(True, choice in settling)
            self.assertIsNone(settling.settle(choice, made=made))
            log, left = [*log, (choice, made)], left.settled(choice, made)
            cores.append(settling.core())
            self.assertEqual((log, left), (settling.log(), settling.left))
            self.assertEqual(core_of(left, answer), settling.core())
            self.assertTrue(set(cores[-1]) < set(cores[-2]))
        self.assertLessEqual(len(log), len(cores[0]))
        self.assertIs(True, settling.is_sure() and is_sure(left, answer))
        values = {
            repr(plain_value(left.diff_of(told), readings.old, readings.new, answer)) for told in left.in_order()
        }
        self.assertEqual({repr(settling.outcome())}, values)
        self.assertEqual(f"Settling({answer[0]!r}, {len(log)})", repr(settling))
        for core in cores[-2::-1]:
            self.assertIsNone(settling.undo())
            self.assertEqual(core, settling.core())
        self.assertEqual((readings, []), (settling.left, settling.log()))
        self.assertRaises(NothingToUndo, settling.undo)

    def test_made_and_unmade(self):
        settling = Settling(Readings(XYXY, XY, Costs()), BOTH)
        settling.settle(0)
        self.assertEqual(((1,), [(0, True)], {0: True}), (settling.core(), settling.log(), settling.left.held()))
        settling.settle(choice=1, made=False)
        self.assertEqual(((), [(0, True), (1, False)], (False, True)), (
            settling.core(), settling.log(), settling.outcome()
        ))
        settling.undo()
        settling.settle(1, made=True)
        self.assertEqual(((False, False), "Settling('all', 2)"), (settling.outcome(), repr(settling)))
        settling.undo()
        settling.undo()
        settling.settle(0, made=False)
        self.assertEqual(((True, True), [(0, False)], {0: False, 1: False}), (
            settling.outcome(), settling.log(), settling.left.held()
        ))

    def test_made_by_its_name_only(self):
        with self.assertRaises(TypeError):
            self.settling.settle(self.settling.core()[0], True)

    def test_about(self):
        readings = Readings(XYXY, XY, Costs())
        settling = Settling.about(readings, ("goes", 1), ("goes", 2))
        self.assertIs(Settling, type(settling))
        self.assertEqual((BOTH, (0, 1)), (settling.answer, settling.core()))
        self.assertEqual(("all", ("mate", 1)), Settling.about(readings, ("mate", 1)).answer)
        for answers in ((), BOTH[1:] * 5, (BOTH,), (("goes", 5),), (("goes", 1), None), (["goes", 1],), (1,)):
            with self.assertRaises(InvalidAnswer) as caught:
                Settling.about(readings, *answers)
            self.assertEqual(("all", *answers), caught.exception.value)

    def test_answers_refused(self):
        readings = Readings(XYXY, XY, Costs())
        for value in NO_ANSWERS + odd_values():
            self.refused(InvalidAnswer, value, Settling, readings, value)

    def test_choices_refused(self):
        settling = Settling(Readings(XYXY, XY, Costs()), ("goes", 1))
        odd = [value for value in odd_values() if isinstance(value, bool) or not isinstance(value, int)]
        for value in NO_CHOICES + odd + [Liar(), Grudge(), 1]:
            self.refused(InvalidChoice, value, settling.settle, value)
            self.assertIs(False, value in settling)
        self.assertEqual((True, [], (0,)), (0 in settling, settling.log(), settling.core()))
        settling.settle(0)
        for value in (0, 1):
            self.refused(InvalidChoice, value, settling.settle, value)
            self.refused(InvalidChoice, value, settling.settle, value, made=False)
            self.assertIs(False, value in settling)
        self.assertEqual([(0, True)], settling.log())

    def test_the_readings_stay_as_they_are(self):
        readings, before = self.readings, list(self.readings.in_order())
        settling = self.settling
        while settling.core():
            settling.settle(settling.core()[-1])
        self.assertEqual(({}, before), (readings.held(), list(readings.in_order())))
        self.assertEqual(Readings(list("aaaa"), list("aa"), Costs()), readings)
        other = Settling(readings, ("partner", 2))
        self.assertEqual(([], readings), (other.log(), other.left))

    def test_of_readings_in_which_something_is_settled(self):
        readings = Readings(XYXY, XY, Costs()).settled(0, True)
        settling = Settling(readings, BOTH)
        self.assertEqual(((1,), []), (settling.core(), settling.log()))
        self.assertRaises(NothingToUndo, settling.undo)
        settling.settle(1)
        settling.undo()
        self.assertEqual({0: True}, settling.left.held())

    def test_questions(self):
        settling = self.settling
        core = settling.core()
        one, other = settling.questions(), settling.questions()
        self.assertEqual([core[0], core[0], core[1]], [next(one), next(other), next(one)])
        waiting = settling.questions()
        settling.settle(core[0])
        self.assertEqual(list(core[2:]), list(one))
        self.assertEqual(list(core[1:]), list(other))
        self.assertEqual(list(settling.core()), list(waiting))
        self.assertNotEqual(core, settling.core())

    def test_answers_are_copied(self):
        going, pairs = {1: 5}, {(1, 1): 2}
        answer = ("all", ("measure", going, {}, pairs), ("goes", 1))
        settling = Settling(self.readings, answer)
        core = settling.core()
        going.clear()
        pairs.clear()
        self.assertEqual(core, settling.core())
        expected = ("all", ("measure", {1: 5}, {}, {(1, 1): 2}), ("goes", 1))
        self.assertEqual(expected, settling.answer)
        settling.answer[1][1].clear()
        settling.answer[1][3][(1, 1)] = 9
        self.assertEqual(expected, settling.answer)
        told = Settling(Readings(XYXY, XY, Costs()), WEIGHTS).answer
        self.assertEqual((WEIGHTS, [False] * 3), (told, [told[k] is WEIGHTS[k] for k in (1, 2, 3)]))
        settling.log().append("more")
        self.assertEqual([], settling.log())

    def test_dicts_given_twice_are_told_apart(self):
        weights = {1: 5}
        for answer in (("measure", weights, weights, {}), ("all", ("measure", weights, {}, {}), ("measure", weights, {}, {}))):
            told = Settling(Readings(XYXY, XY, Costs()), answer).answer
            self.assertEqual(answer, told)
            found = [part for item in told[1:] for part in (item if isinstance(item, tuple) else (item,))]
            dicts = [part for part in found if isinstance(part, dict)]
            self.assertEqual(len(dicts), len({id(part) for part in dicts}))


class WithStatements(ReadingCase):
    def setUp(self):
        self.readings = Readings(list("aaaaa"), list("aa"), Costs())
        self.settling = Settling(self.readings, ("all", ("mate", 1), ("mate", 2)))

    def stands(self):
        return (self.settling.log(), self.settling.core(), self.settling.left, repr(self.settling))

    def ask(self, made=True):
        """Settles a choice of the core that settles no other one of it."""
        core = self.settling.core()
        beside = self.settling.left.known.ahead if made else self.settling.left.known.behind
        self.settling.settle(next(choice for choice in core if not set(beside(choice)) & set(core)), made=made)

    def test_what_is_asked_in_it_is_undone(self):
        settling = self.settling
        self.ask()
        before = self.stands()
        with settling as same:
            self.assertIs(settling, same)
            self.assertEqual(before, self.stands())
            self.ask(False)
            self.ask()
            self.assertEqual(3, len(settling.log()))
        self.assertEqual(before, self.stands())
        settling.undo()
        self.assertEqual([], settling.log())
        self.assertRaises(NothingToUndo, settling.undo)

    def test_undo_takes_back_only_what_was_asked_in_it(self):
        settling = self.settling
        self.ask()
        before = self.stands()
        with settling:
            self.assertRaises(NothingToUndo, settling.undo)
            self.ask()
            inner = self.stands()
            with settling as same:
                self.assertIs(settling, same)
                self.assertRaises(NothingToUndo, settling.undo)
                self.ask()
                self.ask(False)
                settling.undo()
                settling.undo()
                self.assertRaises(NothingToUndo, settling.undo)
                self.assertEqual(inner, self.stands())
                self.ask()
            self.assertEqual(inner, self.stands())
            settling.undo()
            self.assertEqual(before, self.stands())
            self.assertRaises(NothingToUndo, settling.undo)
            self.ask(False)
        self.assertEqual(before, self.stands())
        settling.undo()
        self.assertRaises(NothingToUndo, settling.undo)

    def test_an_error_goes_on(self):
        settling, before = self.settling, self.stands()
        error = Stop()
        with self.assertRaises(Stop) as caught:
            with settling:
                self.ask()
                with settling:
                    self.ask()
                    raise error
        self.assertIs(error, caught.exception)
        self.assertEqual(before, self.stands())
        with self.assertRaises(InvalidChoice):
            with settling:
                settling.settle(settling.core()[0])
                settling.settle("no")
        self.assertEqual(before, self.stands())
        settling.settle(settling.core()[0])
        settling.undo()
        self.assertRaises(NothingToUndo, settling.undo)

    def test_one_behind_the_other(self):
        settling, before = self.settling, self.stands()
        for made in (True, False, True):
            with settling:
                settling.settle(settling.core()[1], made=made)
                self.assertEqual(1, len(settling.log()))
            self.assertEqual(before, self.stands())
        settling.settle(settling.core()[0])
        self.assertEqual(1, len(settling.log()))

    def test_looked_ahead(self):
        settling, readings = self.settling, self.readings
        core = settling.core()
        self.assertEqual([core], looked_ahead(settling, []))
        pairs, left, cores = [], readings, [core]
        while cores[-1]:
            pairs.append((cores[-1][len(pairs) % len(cores[-1])], len(pairs) % 2 == 1))
            left = left.settled(*pairs[-1])
            cores.append(core_of(left, settling.answer))
        before = self.stands()
        self.assertEqual(cores, looked_ahead(settling, pairs))
        self.assertEqual(cores, looked_ahead(pairs=tuple(pairs), settling=settling))
        self.assertEqual(before, self.stands())
        self.assertEqual(3, len(looked_ahead(settling, pairs[:2])))
        settling.settle(*pairs[0][:1], made=pairs[0][1])
        self.assertEqual(cores[1:], looked_ahead(settling, pairs[1:]))
        self.assertEqual(pairs[:1], settling.log())

    def test_looked_ahead_refuses(self):
        settling, before = self.settling, self.stands()
        core = settling.core()
        for value in (99, True, None, -1, Liar(), Grudge()):
            self.refused(InvalidChoice, value, looked_ahead, settling, [(core[0], True), (value, False), (core[1], True)])
            self.assertEqual(before, self.stands())
        self.refused(InvalidChoice, core[0], looked_ahead, settling, [(core[0], True), (core[0], False)])
        self.assertEqual(before, self.stands())
        self.assertRaises(NothingToUndo, settling.undo)

    def test_looked_ahead_within_a_with_statement(self):
        settling = self.settling
        with settling:
            settling.settle(settling.core()[0])
            before = self.stands()
            looked_ahead(settling, [(settling.core()[0], True)])
            self.assertEqual(before, self.stands())
            settling.undo()
            self.assertRaises(NothingToUndo, settling.undo)


class LongTexts(ReadingCase):
    def test_asked_through(self):
        for old, new in (LONG, MIXED):
            readings = Readings(old, new, Costs())
            answers = [("partner", i) for i in (3, 30, 47)] + [("mate", 20)]
            settling = Settling.about(readings, *answers)
            first = settling.core()
            self.assertGreater(len(first), 20)
            while not settling.is_sure():
                many = len(settling.core())
                settling.settle(settling.core()[many // 2], made=many % 2 == 0)
                self.assertLess(len(settling.core()), many)
            self.assertLessEqual(len(settling.log()), len(first))
            left = settling.left
            for reading in (left.first(), left.last(), left.nth(left.count() // 2)):
                value = plain_value(left.diff_of(reading), old, new, ("all", *answers))
                self.assertEqual(value, settling.outcome())
            self.assertEqual({}, readings.held())
            settled = settling.log()[0]
            with self.assertRaises(Settled):
                left.settled(settled[0], not settled[1])


if __name__ == "__main__":
    unittest.main()
