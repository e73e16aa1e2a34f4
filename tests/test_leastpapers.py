import unittest

from alldiffs.costs import Costs
from alldiffs.errors import InvalidAnswer, InvalidCosts, InvalidText
from alldiffs.leastpapers import (
    beyond_least, is_least_paper, is_statement_paper, is_sure_statement, least_paper, statement_paper,
)
from alldiffs.tables import Tables, least_cost
from tests.search import Grudge, Liar, all_diffs, odd_values, price, texts_up_to
from tests.test_tables import COMING, GOING, OWN, bent, no_tables

OLD, NEW = ["a", "b", "a"], ["a"]
BEGIN, END = [[0, 1], [1, 0], [2, 1], [3, 2]], [[2, 3], [1, 2], [0, 1], [1, 0]]
SURE = (("goes", 2), True)
OPEN = (("goes", 1), True)
NO_STATEMENTS = [
    [("goes", 1), True], (("goes", 1),), (("goes", 1), True, True), (["goes", 1], True), (("goes", 1), 1),
    (("goes", 1), 0), (("goes", 1), None), (("goes", 1), "True"), (("goes", 0), True), (("goes", 4), True),
    (("goes", -1), True), (("goes", True), True), (("goes", None), True), (("goes", "1"), True), (("goes",), True),
    (("goes", 1, 1), True), (("gone", 1), True), (("comes", 0), True), (("comes", 2), True), (("comes", 1, 1), True),
    (("comes", True), True), (("comes",), True), (("pair", 1), True), (("pair", 1, 1, 1), True),
    (("pair", 0, 1), True), (("pair", 1, 0), True), (("pair", 4, 1), True), (("pair", 1, 2), True),
    (("pair", True, 1), True), (("pair", 1, True), True), (("pair", 1, None), True), (("partner", 1), True),
    (("mate", 1), 1), (("pair", (1, 1)), True), ("goes", 1, True), (("pair", 1, 1), 1), ((1, "goes"), True),
    ((b"goes", 1), True), ((None, 1), True), ((Liar(), 1), True), ((Grudge(), 1), True), (("goes", Liar()), True),
    (("goes", Grudge()), True), (("goes", 1), Liar()), (("goes", 1), Grudge()), (Liar(), True), (Grudge(), True),
    ((), True), ("goes", True), (None, True), ({}, False), (("measure", {}, {}, {}), True),
    (("all", ("goes", 1)), True),
]


def statements(old, new):
    """All statements for two texts."""
    answers = [("pair", i, j) for i in range(1, len(old) + 1) for j in range(1, len(new) + 1)]
    answers += [("goes", i) for i in range(1, len(old) + 1)]
    answers += [("comes", j) for j in range(1, len(new) + 1)]
    return [(answer, value) for answer in answers for value in (True, False)]


def is_true(statement, diff):
    """Whether a statement is true of a diff."""
    (kind, *numbers), value = statement
    if kind == "pair":
        told = tuple(numbers) in diff
    elif kind == "goes":
        told = all(i != numbers[0] for i, _ in diff)
    else:
        told = all(j != numbers[0] for _, j in diff)
    return told is value


class PaperCase(unittest.TestCase):
    def refused(self, error, value, call, *args, **named):
        with self.assertRaises(error) as caught:
            call(*args, **named)
        self.assertIs(value, caught.exception.value)


class LeastPapers(PaperCase):
    def test_told_and_judged_by_a_search(self):
        for costs, going, coming in ((Costs(), {}, {}), (OWN, GOING, COMING)):
            for old in texts_up_to(3, "ab"):
                for new in texts_up_to(3, "ab"):
                    diff, begin = least_paper(old, new, costs)
                    self.assertIs(True, is_least_paper(old, new, costs, (diff, begin)))
                    self.assertIs(True, diff in Tables(old, new, costs))
                    self.assertIs(True, Tables.is_begin(old, new, costs, begin))
                    for other in all_diffs(old, new):
                        least = price(old, new, other, going, coming) == least_cost(old, new, costs)
                        self.assertIs(least, is_least_paper(old, new, costs, (other, begin)))

    def test_kinds(self):
        paper = least_paper(costs=Costs(), new=tuple(NEW), old=tuple(OLD))
        self.assertEqual((tuple, 2, tuple, list), (type(paper), len(paper), type(paper[0]), type(paper[1])))
        self.assertIs(True, is_least_paper(value=paper, costs=Costs(), new=NEW, old=OLD))
        self.assertIs(True, is_least_paper(OLD, NEW, Costs(), (((1, 1),), tuple(tuple(row) for row in BEGIN))))
        self.assertIs(True, is_least_paper([], [], Costs(), ((), [[0]])))
        self.assertEqual(((), [[0]]), least_paper([], [], Costs()))

    def test_a_begin_table_that_is_not_the_greatest(self):
        old, new = ["a", "b"], ["b", "a"]
        begin = [[0, 1, 0], [1, 2, 1], [0, 1, 2]]
        self.assertIs(True, is_least_paper(old, new, Costs(), (((1, 2),), begin)))
        self.assertNotEqual(begin, Tables(old, new, Costs()).begin_table)

    def test_what_is_none(self):
        diff = ((3, 1),)
        self.assertIs(True, is_least_paper(OLD, NEW, Costs(), (diff, BEGIN)))
        for table in no_tables(BEGIN) + odd_values():
            self.assertIs(False, is_least_paper(OLD, NEW, Costs(), (diff, table)))
        for other in odd_values() + [(), ((1, 1), (3, 1)), ((True, 1),), [(3, 1)], ((2, 1),), (3, 1)]:
            self.assertIs(False, is_least_paper(OLD, NEW, Costs(), (other, BEGIN)))
        for value in odd_values() + [[diff, BEGIN], (diff,), (diff, BEGIN, END), (BEGIN, diff), (), []]:
            self.assertIs(False, is_least_paper(OLD, NEW, Costs(), value))

    def test_each_number_bent(self):
        for i in range(4):
            for j in range(2):
                more = bent(BEGIN, i, j, BEGIN[i][j] + 1)
                self.assertIs(False, is_least_paper(OLD, NEW, Costs(), (((3, 1),), more)))
        for less in (-1, 0, 1):
            self.assertIs(False, is_least_paper(OLD, NEW, Costs(), (((3, 1),), bent(BEGIN, 3, 1, less))))

    def test_papers_are_new(self):
        paper = least_paper(OLD, NEW, Costs())
        paper[1][0][0] = 5
        paper[1][1].clear()
        self.assertIs(True, is_least_paper(OLD, NEW, Costs(), least_paper(OLD, NEW, Costs())))
        self.assertEqual((["a", "b", "a"], ["a"]), (OLD, NEW))

    def test_refused(self):
        for call in (least_paper, lambda *given: is_least_paper(*given, None)):
            self.refused(InvalidText, "o", call, "o", "n", 5)
            self.refused(InvalidText, "n", call, OLD, "n", 5)
            self.refused(InvalidCosts, 5, call, OLD, NEW, 5)
            for value in odd_values():
                self.refused(InvalidText, value, call, OLD, value, 5)
                self.refused(InvalidCosts, value, call, OLD, NEW, value)


class Statements(PaperCase):
    def test_the_examples(self):
        self.assertEqual([0, 0], [beyond_least(OLD, NEW, Costs(), (("goes", 1), value)) for value in (True, False)])
        self.assertEqual([None, 0], [beyond_least(OLD, NEW, Costs(), (("goes", 2), value)) for value in (True, False)])
        self.assertEqual(2, beyond_least(["a", "b"], ["a", "b"], Costs(), (("pair", 1, 1), True)))

    def test_some(self):
        one = (["a"], ["a"], Costs(3, 4))
        self.assertEqual([7, 0], [beyond_least(*one, (("pair", 1, 1), value)) for value in (True, False)])
        self.assertEqual([0, 7], [beyond_least(*one, (("goes", 1), value)) for value in (True, False)])
        self.assertEqual([0, 7], [beyond_least(*one, (("comes", 1), value)) for value in (True, False)])
        unlike = (["a"], ["b"], Costs(3, 4))
        self.assertEqual([0, None], [beyond_least(*unlike, (("pair", 1, 1), value)) for value in (True, False)])
        self.assertEqual([None, 0], [beyond_least(*unlike, (("goes", 1), value)) for value in (True, False)])
        self.assertEqual([None, 0], [beyond_least(*unlike, (("comes", 1), value)) for value in (True, False)])
        self.assertEqual(2, beyond_least(statement=(("goes", 2), False), costs=Costs(), new=["a", "b"], old=["a", "b"]))

    def test_by_a_search(self):
        for costs, going, coming in ((Costs(), {}, {}), (OWN, GOING, COMING)):
            for old in texts_up_to(3, "ab"):
                for new in texts_up_to(3, "ab"):
                    prices = {diff: price(old, new, diff, going, coming) for diff in all_diffs(old, new)}
                    for statement in statements(old, new):
                        self.check(old, new, costs, statement, prices)

    def check(self, old, new, costs, statement, prices):
        least = min(prices.values())
        against = [cost - least for diff, cost in prices.items() if not is_true(statement, diff)]
        beyond = min(against, default=None)
        self.assertEqual(beyond, beyond_least(old, new, costs, statement))
        sure = 0 not in against
        self.assertIs(sure, is_sure_statement(old, new, costs, statement))
        paper = statement_paper(old, new, costs, statement)
        tables = Tables(old, new, costs)
        best = (tables.diff(), tables.begin_table, tables.end_table)
        self.assertIs(sure, is_statement_paper(old, new, costs, statement, best))
        self.assertIs(sure, paper is not None)
        if sure:
            self.assertIs(True, is_statement_paper(old, new, costs, statement, paper))
            self.assertEqual((tuple, 3), (type(paper), len(paper)))
            for diff, cost in prices.items():
                told = is_statement_paper(old, new, costs, statement, (diff, *paper[1:]))
                self.assertIs(beyond is None or cost < least + beyond, told)

    def test_lines_far_apart(self):
        old, new = ["a"] * 60, ["b"] * 59 + ["a"]
        self.assertEqual(0, beyond_least(old, new, Costs(), (("pair", 1, 60), True)))
        self.assertEqual(0, beyond_least(old, new, Costs(), (("pair", 60, 60), True)))
        self.assertEqual(2, beyond_least(old, new, Costs(), (("comes", 60), False)))
        self.assertIs(True, is_sure_statement(old, new, Costs(), (("comes", 59), True)))

    def test_each_bent_number_of_a_paper(self):
        statement = (("pair", 1, 1), True)
        old, new = ["a", "b"], ["a", "b"]
        diff, begin, end = statement_paper(old, new, Costs(), statement)
        for i in range(3):
            for j in range(3):
                more = bent(begin, i, j, begin[i][j] + 1)
                self.assertIs(False, is_statement_paper(old, new, Costs(), statement, (diff, more, end)))
                more = bent(end, i, j, end[i][j] + 1)
                self.assertIs(False, is_statement_paper(old, new, Costs(), statement, (diff, begin, more)))

    def test_numbers_that_are_just_enough(self):
        old, new, statement = ["a"], ["a"], (("goes", 1), False)
        diff = ((1, 1),)
        for number in range(-2, 2):
            begin, end = [[0, number], [1, 0]], [[0, 1], [1, 0]]
            self.assertIs(
                number > -1, is_statement_paper(old, new, Costs(), statement, (diff, begin, end)), number
            )
        begin, end = [[0, 1], [1, 0]], [[0, 0], [0, 0]]
        self.assertIs(True, is_statement_paper(old, new, Costs(), statement, (diff, begin, end)))
        self.assertIs(False, is_statement_paper(old, new, Costs(2, 1), statement, ((), begin, end)))
        self.assertIs(False, is_statement_paper(old, new, Costs(), statement, (diff, begin, [[0, 0], [-1, 0]])))

    def test_what_is_no_paper(self):
        diff = ((3, 1),)
        self.assertIs(True, is_statement_paper(OLD, NEW, Costs(), SURE, (diff, BEGIN, END)))
        self.assertIs(True, is_statement_paper(
            value=(((1, 1),), tuple(tuple(row) for row in BEGIN), tuple(tuple(row) for row in END)),
            statement=SURE, costs=Costs(), new=NEW, old=OLD,
        ))
        for table in no_tables(BEGIN) + odd_values() + [END]:
            self.assertIs(False, is_statement_paper(OLD, NEW, Costs(), SURE, (diff, table, END)))
        for table in no_tables(END) + odd_values() + [BEGIN]:
            self.assertIs(False, is_statement_paper(OLD, NEW, Costs(), SURE, (diff, BEGIN, table)))
        for other in odd_values() + [((1, 1), (3, 1)), ((True, 1),), [(3, 1)], ((2, 1),), (3, 1), []]:
            self.assertIs(False, is_statement_paper(OLD, NEW, Costs(), SURE, (other, BEGIN, END)))
        for value in odd_values() + [
            [diff, BEGIN, END], (diff, BEGIN), (diff, BEGIN, END, END), (BEGIN, END, diff), (),
        ]:
            self.assertIs(False, is_statement_paper(OLD, NEW, Costs(), SURE, value))

    def test_no_paper_if_it_is_not_sure(self):
        self.assertIsNone(statement_paper(OLD, NEW, Costs(), OPEN))
        self.assertIs(False, is_sure_statement(OLD, NEW, Costs(), OPEN))
        for value in (None, (((1, 1),), BEGIN, END), (((3, 1),), BEGIN, END), ((), BEGIN, END)):
            self.assertIs(False, is_statement_paper(OLD, NEW, Costs(), OPEN, value))

    def test_papers_are_new(self):
        for _ in range(2):
            _, begin, end = statement_paper(OLD, NEW, Costs(), SURE)
            self.assertEqual((BEGIN, END), (begin, end))
            begin[0].clear()
            end[0].clear()
            begin.clear()
            end.clear()
        self.assertEqual((["a", "b", "a"], ["a"]), (OLD, NEW))


class WhatIsRefused(PaperCase):
    CALLS = (beyond_least, is_sure_statement, statement_paper, lambda *given: is_statement_paper(*given, None))

    def test_statements(self):
        for call in self.CALLS:
            for value in NO_STATEMENTS + odd_values():
                self.refused(InvalidAnswer, value, call, OLD, NEW, Costs(), value)
            for value in statements([], []) + [(("goes", 1), True), (("comes", 1), False), (("pair", 1, 1), False)]:
                self.refused(InvalidAnswer, value, call, [], [], Costs(), value)

    def test_statements_that_are_some(self):
        for call in self.CALLS[:2]:
            for statement in statements(OLD, NEW):
                call(OLD, NEW, Costs(), statement)
        self.assertEqual(10 + 4, len(statements(OLD, NEW)))

    def test_texts_and_costs_first(self):
        for call in self.CALLS:
            self.refused(InvalidText, "o", call, "o", "n", 5, 5)
            self.refused(InvalidText, "n", call, OLD, "n", 5, 5)
            self.refused(InvalidCosts, 5, call, OLD, NEW, 5, 6)
            self.refused(InvalidAnswer, 6, call, OLD, NEW, Costs(), 6)


if __name__ == "__main__":
    unittest.main()
