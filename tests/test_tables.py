import unittest

from alldiffs.costs import Costs
from alldiffs.errors import InvalidCosts, InvalidPlace, InvalidText
from alldiffs.tables import Tables, least_cost
from tests.search import Grudge, Liar, all_diffs, odd_values, price, texts_up_to

GOING, COMING = {"a": 2, "b": 5}, {"a": 3, "b": 1}
OWN = Costs(1, 1, {"a": (2, 3), "b": (5, 1)})
NO_PLACES = [
    (-1, 0), (0, -1), (4, 0), (0, 2), (3, 2), (4, 1), [0, 0], (0,), (0, 0, 0), (True, 0), (0, False), (False, 0),
    (0, None), ("0", 0), (0, "0"), "00", None, 0, {}, (Liar(), Liar()), (Grudge(), 0), (0, Grudge()), Liar(), Grudge(),
]


def least(old, new, going, coming):
    return min(price(old, new, diff, going, coming) for diff in all_diffs(old, new))


def bent(table, i, j, number):
    """The table with another number at (i, j)."""
    return [[number if (k, n) == (i, j) else table[k][n] for n in range(len(table[0]))] for k in range(len(table))]


def no_tables(table):
    """Values that differ from a table by more than its numbers; the table begins with 0 and 1 in its first row."""
    return [
        None, 5, "", [], {}, table[:-1], [*table, table[-1]], table[1:], [row[:-1] for row in table],
        [[*row, row[-1]] for row in table], [table[0][:-1], *table[1:]], [*table[:-1], [*table[-1], 5]],
        [None, *table[1:]], ["01", *table[1:]], [{0: 0, 1: 1}, *table[1:]], bent(table, 0, 1, True),
        bent(table, 0, 0, False), bent(table, 0, 1, None), bent(table, 0, 1, "1"), bent(table, 0, 1, [1]),
        bent(table, 1, 0, True), bent(table, 0, 1, Liar()), bent(table, 0, 1, Grudge()), [Liar(), *table[1:]],
        {k: row for k, row in enumerate(table)}, [set(row) for row in table],
    ]


class TableCase(unittest.TestCase):
    def refused(self, value, call, *args):
        with self.assertRaises(InvalidPlace) as caught:
            call(*args)
        self.assertIs(value, caught.exception.value)


class LeastCosts(TableCase):
    def test_the_example(self):
        tables = Tables(["a", "b", "a"], ["a"], Costs())
        self.assertEqual((2, [[0, 1], [1, 0], [2, 1], [3, 2]], True), (
            tables.total, tables.begin_table, ((3, 1),) in tables
        ))
        self.assertEqual([[2, 3], [1, 2], [0, 1], [1, 0]], tables.end_table)
        self.assertEqual(2, least_cost(["a", "b", "a"], ["a"], Costs()))

    def test_texts_without_lines(self):
        tables = Tables([], (), Costs())
        self.assertEqual((0, [[0]], [[0]], ()), (tables.total, tables.begin_table, tables.end_table, tables.diff()))
        self.assertEqual([], list(tables.onward((0, 0))))
        self.assertEqual((True, False), (() in tables, ((1, 1),) in tables))
        self.assertEqual([[0, 3, 4]], Tables([], ["a", "b"], OWN).begin_table)
        self.assertEqual([[4, 1, 0]], Tables([], ["a", "b"], OWN).end_table)
        self.assertEqual([[0], [2], [7]], Tables(["a", "b"], [], OWN).begin_table)
        self.assertEqual([[7], [5], [0]], Tables(["a", "b"], [], OWN).end_table)
        self.assertEqual((4, 7, 0), (
            least_cost([], ["a", "b"], OWN), least_cost(["a", "b"], [], OWN), least_cost([], [], OWN)
        ))

    def test_both_tables_by_a_search(self):
        for costs, going, coming in ((Costs(), {}, {}), (OWN, GOING, COMING)):
            for old in texts_up_to(3, "ab"):
                for new in texts_up_to(3, "ab"):
                    tables = Tables(old, new, costs)
                    self.assertEqual(least(old, new, going, coming), tables.total)
                    self.assertEqual(tables.total, least_cost(old, new, costs))
                    self.assertEqual([
                        [least(old[:i], new[:j], going, coming) for j in range(len(new) + 1)]
                        for i in range(len(old) + 1)
                    ], tables.begin_table)
                    self.assertEqual([
                        [least(old[i:], new[j:], going, coming) for j in range(len(new) + 1)]
                        for i in range(len(old) + 1)
                    ], tables.end_table)

    def test_a_pair_that_is_not_worth_it(self):
        costs = Costs(1, 1, {"b": (9, 9)})
        old, new = ["a", "b"], ["b", "a"]
        self.assertEqual((2, ((2, 1),)), (least_cost(old, new, costs), Tables(old, new, costs).diff()))

    def test_long_texts(self):
        old, new = ["a", "b", "c"] * 20, ["b", "a", "c"] * 20
        tables = Tables(old, new, Costs())
        self.assertEqual(40, tables.total)
        self.assertEqual((61, 61), (len(tables.begin_table), len(tables.begin_table[60])))
        self.assertEqual((40, 40), (tables.begin_table[60][60], tables.end_table[0][0]))
        self.assertIs(True, tables.diff() in tables)
        self.assertIs(True, Tables.is_begin(old, new, Costs(), tables.begin_table))
        self.assertEqual(0, least_cost(["a"] * 60, ["a"] * 60, Costs()))
        self.assertEqual(120 * 999999, least_cost(["a"] * 60, ["b"] * 60, Costs(999999, 999999)))

    def test_diff_and_in_by_a_search(self):
        for costs, going, coming in ((Costs(), {}, {}), (OWN, GOING, COMING)):
            for old in texts_up_to(4, "ab")[::2]:
                for new in texts_up_to(3, "ab"):
                    tables = Tables(old, new, costs)
                    prices = {diff: price(old, new, diff, going, coming) for diff in all_diffs(old, new)}
                    self.assertEqual(min(prices.values()), prices[tables.diff()])
                    for diff, cost in prices.items():
                        self.assertIs(cost == tables.total, diff in tables)

    def test_in_for_any_value(self):
        tables = Tables(["a", "b", "a"], ["a"], Costs())
        for value in odd_values() + [
            [(3, 1)], ((3, 1), (3, 1)), ((True, True),), ((True, 1),), ((2, 1),), ((4, 1),), ((0, 0),), [], ([3, 1],),
            (3, 1),
        ]:
            self.assertIs(False, value in tables)
        self.assertIs(True, ((1, 1),) in tables)
        self.assertIs(False, () in tables)

    def test_tables_are_new(self):
        tables = Tables(["a"], ["b"], Costs())
        for _ in range(2):
            for table in (tables.begin_table, tables.end_table):
                table[0][0] = 99
                table[1].clear()
                table.clear()
        self.assertEqual(([[0, 1], [1, 2]], [[2, 1], [1, 0]]), (tables.begin_table, tables.end_table))
        self.assertEqual(2, tables.total)

    def test_later_changes_have_no_effect(self):
        old, new = ["a", "b"], ["b"]
        tables = Tables(old, new, Costs())
        old[0] = "c"
        new.append("a")
        self.assertEqual((1, ((2, 1),)), (tables.total, tables.diff()))
        self.assertEqual(Tables(["a", "b"], ["b"], Costs()), tables)
        self.assertEqual([(1, 0), (0, 1)], list(tables.onward((0, 0))))
        self.assertEqual((["c", "b"], ["b", "a"]), (old, new))

    def test_equal(self):
        tables = Tables(["a"], ["b"], OWN)
        self.assertIs(True, tables == Tables(("a",), ("b",), Costs(1, 1, {"b": (5, 1), "a": (2, 3)})))
        for other in (Tables(["b"], ["b"], OWN), Tables(["a"], ["a"], OWN), Tables(["a"], ["b"], Costs()),
                      Tables(["b"], ["a"], OWN), Tables(["a", "a"], ["b"], OWN), None, 1, ["a"], object()):
            self.assertIs(False, tables == other)
            self.assertIs(True, tables != other)

    def test_refused(self):
        for call in (least_cost, Tables):
            for args, error, value in (
                (("o", "n", 5), InvalidText, "o"), (([], "n", 5), InvalidText, "n"), (([], [], 5), InvalidCosts, 5),
                ((["a"] * 61, [], 5), InvalidText, ["a"] * 61), (([], [], None), InvalidCosts, None),
                (([], [], (1, 1)), InvalidCosts, (1, 1)), (([True], [], 5), InvalidText, [True]),
            ):
                with self.assertRaises(error) as caught:
                    call(*args)
                self.assertEqual(value, caught.exception.value)
                if error is InvalidCosts:
                    self.assertEqual("costs", caught.exception.problem)
            with self.assertRaises(InvalidCosts):
                call(costs=Costs, new=[], old=[])
            for value in odd_values():
                with self.assertRaises(InvalidText):
                    call([], value, Costs())


class Steps(TableCase):
    def setUp(self):
        self.tables = Tables(["a", "b", "a"], ["a"], Costs())

    def test_onward(self):
        self.assertEqual([(1, 0), (1, 1), (0, 1)], list(self.tables.onward((0, 0))))
        self.assertEqual([(2, 0), (1, 1)], list(self.tables.onward((1, 0))))
        self.assertEqual([(3, 0), (3, 1), (2, 1)], list(self.tables.onward(place=(2, 0))))
        self.assertEqual([(3, 1)], list(self.tables.onward((3, 0))))
        self.assertEqual([(1, 1)], list(self.tables.onward((0, 1))))
        self.assertEqual([], list(self.tables.onward((3, 1))))

    def test_onward_refuses_when_the_first_one_is_asked_for(self):
        for value in NO_PLACES + odd_values():
            self.refused(value, lambda: next(self.tables.onward(value)))

    def test_two_beside_one_another(self):
        one, other = self.tables.onward((0, 0)), self.tables.onward((0, 0))
        self.assertEqual([(1, 0), (1, 0), (1, 1), (0, 1), (1, 1)], [
            next(one), next(other), next(one), next(one), next(other)
        ])

    def test_slack(self):
        self.assertEqual(2, self.tables.slack((0, 0), (0, 1)))
        self.assertEqual([0, 0], [self.tables.slack((0, 0), (1, 0)), self.tables.slack((0, 0), (1, 1))])
        self.assertEqual(0, self.tables.slack(other=(3, 1), one=(2, 0)))
        for one, other in (((0, 0), (0, 0)), ((0, 0), (2, 0)), ((1, 0), (2, 1)), ((1, 0), (0, 0)), ((0, 1), (1, 0)),
                           ((3, 1), (0, 0)), ((1, 1), (0, 0)), ((0, 0), (3, 1))):
            self.assertIsNone(self.tables.slack(one, other))

    def test_slack_refuses(self):
        for value in NO_PLACES + odd_values():
            self.refused(value, self.tables.slack, value, (0, 0))
            self.refused(value, self.tables.slack, (0, 0), value)
            self.refused(value, self.tables.slack, value, "no")

    def test_slack_by_a_search(self):
        old, new = ["a", "b", "a"], ["b", "a", "a"]
        tables = Tables(old, new, OWN)
        best = least(old, new, GOING, COMING)
        for i in range(4):
            for j in range(4):
                ahead = least(old[:i], new[:j], GOING, COMING)
                told = list(tables.onward((i, j)))
                for k in range(4):
                    for n in range(4):
                        behind = least(old[k:], new[n:], GOING, COMING)
                        cost = {(1, 0): lambda: GOING[old[i]], (0, 1): lambda: COMING[new[j]], (1, 1): lambda: 0}
                        step = (k - i, n - j)
                        if step not in cost or (step == (1, 1) and old[i] != new[j]):
                            self.assertIsNone(tables.slack((i, j), (k, n)))
                            self.assertNotIn((k, n), told)
                        else:
                            self.assertEqual(ahead + cost[step]() + behind - best, tables.slack((i, j), (k, n)))
                            self.assertIn((k, n), told)


class Judged(TableCase):
    OLD, NEW = ["a", "b", "a"], ["a"]
    BEGIN, END = [[0, 1], [1, 0], [2, 1], [3, 2]], [[2, 3], [1, 2], [0, 1], [1, 0]]

    def test_the_greatest_ones(self):
        for judge, table in ((Tables.is_begin, self.BEGIN), (Tables.is_end, self.END)):
            self.assertIs(True, judge(self.OLD, self.NEW, Costs(), table))
            self.assertIs(True, judge(self.OLD, self.NEW, Costs(), tuple(tuple(row) for row in table)))
            self.assertIs(True, judge(value=table, costs=Costs(), new=self.NEW, old=tuple(self.OLD)))
            self.assertIs(True, judge([], [], Costs(), [[0]]))
            self.assertIs(True, judge([], [], Costs(), ((0,),)))
            self.assertIs(False, judge([], [], Costs(), [[1]]))
            self.assertIs(False, judge([], [], Costs(), [[-1]]))
        tables = Tables([], [], Costs())
        self.assertEqual((True, True), (
            tables.is_begin(self.OLD, self.NEW, Costs(), self.BEGIN),
            tables.is_end(self.OLD, self.NEW, Costs(), self.END),
        ))
        self.assertIs(False, Tables.is_begin(self.OLD, self.NEW, Costs(), self.END))
        self.assertIs(False, Tables.is_end(self.OLD, self.NEW, Costs(), self.BEGIN))

    def test_lesser_ones(self):
        self.assertIs(True, Tables.is_begin(self.OLD, self.NEW, Costs(), [[0, 0], [0, 0], [0, 0], [0, 0]]))
        self.assertIs(True, Tables.is_begin(self.OLD, self.NEW, Costs(), [[0, -3], [-4, -3], [-5, -4], [-4, -5]]))
        self.assertIs(True, Tables.is_end(self.OLD, self.NEW, Costs(), [[-9, -8], [0, 0], [0, 0], [0, 0]]))

    def test_what_is_no_table(self):
        for judge, table in ((Tables.is_begin, self.BEGIN), (Tables.is_end, self.END)):
            for value in no_tables(table) + odd_values():
                self.assertIs(False, judge(self.OLD, self.NEW, Costs(), value))

    def test_each_bent_number(self):
        old, new = ["a", "b"], ["b", "a"]
        tables = Tables(old, new, OWN)
        for i in range(3):
            for j in range(3):
                begin, end = tables.begin_table, tables.end_table
                self.assertIs(False, Tables.is_begin(old, new, OWN, bent(begin, i, j, begin[i][j] + 1)))
                self.assertIs(False, Tables.is_end(old, new, OWN, bent(end, i, j, end[i][j] + 1)))
                for less in (1, 20):
                    for judge, table, zero in ((Tables.is_begin, begin, (0, 0)), (Tables.is_end, end, (2, 2))):
                        value = bent(table, i, j, table[i][j] - less)
                        self.assertIs(self.holds(old, new, value, judge), judge(old, new, OWN, value))
                        if (i, j) == zero:
                            self.assertIs(False, judge(old, new, OWN, value))

    def holds(self, old, new, table, judge):
        """The words of the document, once more."""
        sign = 1 if judge is Tables.is_begin else -1
        if (table[0][0] if sign == 1 else table[2][2]) != 0:
            return False
        for i in range(3):
            for j in range(3):
                steps = [(i + 1, j, GOING[old[i]])] if i < 2 else []
                steps += [(i, j + 1, COMING[new[j]])] if j < 2 else []
                steps += [(i + 1, j + 1, 0)] if i < 2 and j < 2 and old[i] == new[j] else []
                if any(sign * (table[k][n] - table[i][j]) > cost for k, n, cost in steps):
                    return False
        return True

    def test_all_tables_with_small_numbers(self):
        old, new = ["a"], ["a"]
        costs = Costs(1, 2)
        begins, ends = [], []
        for a in range(-3, 3):
            for b in range(-3, 3):
                for c in range(-3, 3):
                    table = [[0, a], [b, c]]
                    self.assertIs(
                        a <= 2 and b <= 1 and c <= a + 1 and c <= b + 2 and c <= 0,
                        Tables.is_begin(old, new, costs, table),
                    )
                    begins.append(Tables.is_begin(old, new, costs, table))
                    table = [[c, a], [b, 0]]
                    self.assertIs(
                        a <= 1 and b <= 2 and c <= a + 2 and c <= b + 1 and c <= 0,
                        Tables.is_end(old, new, costs, table),
                    )
                    ends.append(Tables.is_end(old, new, costs, table))
        self.assertEqual([{True, False}] * 2, [set(begins), set(ends)])

    def test_refused(self):
        for judge in (Tables.is_begin, Tables.is_end):
            for args, error, value in (
                (("o", "n", 5, 5), InvalidText, "o"), (([], "n", 5, 5), InvalidText, "n"),
                (([], [], 5, 5), InvalidCosts, 5), (([], [], None, [[0]]), InvalidCosts, None),
            ):
                with self.assertRaises(error) as caught:
                    judge(*args)
                self.assertEqual(value, caught.exception.value)

    def test_arguments_are_not_changed(self):
        begin, end = [list(row) for row in self.BEGIN], [list(row) for row in self.END]
        Tables.is_begin(self.OLD, self.NEW, Costs(), begin)
        Tables.is_end(self.OLD, self.NEW, Costs(), end)
        self.assertEqual((self.BEGIN, self.END), (begin, end))


if __name__ == "__main__":
    unittest.main()
