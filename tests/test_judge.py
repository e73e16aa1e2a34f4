import unittest

from alldiffs.common import common_numbers, common_pick
from alldiffs.commonpapers import common_paper
from alldiffs.cores import parted_readings
from alldiffs.costs import Costs
from alldiffs.errors import InvalidClaim
from alldiffs.judge import KINDS, is_claim, is_paper, paper_of
from alldiffs.leastpapers import is_sure_statement
from alldiffs.measures import greatest_value, least_value
from alldiffs.mergecores import Merge
from alldiffs.readings import Readings
from alldiffs.tables import least_cost
from alldiffs.writtenpapers import written_paper
from tests.merges import settled_merges
from tests.search import Grudge, Liar, odd_values
from tests.test_answers import plain_value, some_measures
from tests.test_cores import answers_of_all_kinds, parted
from tests.test_mergecores import ABA, MergeCase
from tests.test_readings import all_left

OLD, NEW = ["a", "b", "a"], ["a"]
WEIGHTS = ("measure", {1: 5}, {}, {(3, 1): 2})


def claims():
    """Claims of each kind that are true."""
    readings, merge = Readings(OLD, NEW, Costs()), Merge(*ABA, Costs())
    left = merge.settled((1, 0), True)
    return [
        ("least", OLD, NEW, Costs(), 2), ("least", tuple(OLD), tuple(NEW), Costs(2, 1), 4), ("sure", OLD, NEW, Costs(), (("goes", 2), True)),
        ("sure", tuple(OLD), NEW, Costs(), (("pair", 2, 1), False)), ("matters", readings, ("goes", 1), 0),
        ("greatest", readings, WEIGHTS, 7), ("smallest", readings, WEIGHTS, 0), ("row", left, ("a", "c")), ("parts", merge, (1, 0)),
        ("common", merge, (0, 3)), ("common", left, (0, 3)),
    ]


def false_claims():
    """Claims that are not true."""
    readings, merge = Readings(OLD, NEW, Costs()), Merge(*ABA, Costs())
    left = merge.settled((1, 0), True)
    return [
        ("least", OLD, NEW, Costs(), 1), ("least", OLD, NEW, Costs(), 3), ("least", OLD, NEW, Costs(), -2), ("least", [], [], Costs(), 10 ** 25),
        ("sure", OLD, NEW, Costs(), (("goes", 1), True)), ("sure", OLD, NEW, Costs(), (("goes", 2), False)),
        ("matters", readings, ("goes", 2), 0), ("matters", readings.settled(0, True), ("goes", 1), 0),
        ("greatest", readings, WEIGHTS, 6), ("greatest", readings, WEIGHTS, 0), ("smallest", readings, WEIGHTS, 7), ("smallest", readings, WEIGHTS, -1),
        ("row", merge, ("a", "c")), ("row", left, ("c", "a")), ("row", left, ()), ("parts", left, (1, 0)), ("common", merge, (0, 2)),
        ("common", merge, (1, 3)), ("common", merge, (0, 4)), ("common", merge, (-1, 3)),
    ]


def wrong_claims():
    """Values that are no claims, though each is almost one."""
    found = []
    for claim in claims():
        found += [list(claim), claim[:-1], (*claim, claim[-1]), (claim[0].upper(), *claim[1:]), ("no", *claim[1:]), claim[1:], (None, *claim[1:])]
        for at in range(1, len(claim)):
            for value in (None, True, "a\n", Liar(), Grudge(), [1], {"a": 1}):
                found.append((*claim[:at], value, *claim[at + 1:]))
    readings, merge, costs = Readings(OLD, NEW, Costs()), Merge(*ABA, Costs()), Costs()
    return found + [
        ("least", ["a"] * 61, [], costs, 1), ("least", OLD, NEW, costs, "2"), ("sure", OLD, NEW, costs, (("goes", 4), True)),
        ("sure", OLD, NEW, costs, (("goes", 1), 1)), ("sure", OLD, NEW, costs, (("partner", 1), None)), ("sure", OLD, NEW, costs, [("goes", 1), True]),
        ("matters", readings, ("goes", 1), 1), ("matters", readings, ("goes", 1), -1), ("matters", readings, ("goes", 1), False),
        ("matters", readings, ("goes", 4), 0), ("matters", merge, ("goes", 1), 0), ("greatest", readings, ("goes", 1), 1),
        ("greatest", readings, ("all", WEIGHTS), 7), ("smallest", readings, ("measure", {4: 1}, {}, {}), 0), ("greatest", readings, WEIGHTS, "7"),
        ("row", readings, ("a", "c")), ("row", merge, ["a", "c"]), ("row", merge, ("a\n",)), ("row", merge, (("clash", 1, 0, (), ()),)),
        ("parts", merge, (1, 1)), ("parts", merge, (3, 0)), ("parts", merge, [1, 0]), ("parts", merge, (True, 0)), ("parts", readings, (1, 0)),
        ("common", merge, [0, 3]), ("common", merge, (0, 3, 0)), ("common", merge, (False, 3)), ("common", merge, 3), ("common", merge, ("0", 3)),
        ("row", merge), ("least",), (), "least", (("least",), OLD, NEW, costs, 2), (Liar(), OLD, NEW, costs, 2), (Grudge(), merge, (0, 3)),
    ]


class Judges(MergeCase):
    def test_kinds(self):
        self.assertEqual(("least", "sure", "matters", "greatest", "smallest", "row", "parts", "common"), KINDS)
        self.assertEqual(KINDS, tuple(dict.fromkeys(claim[0] for claim in claims())))

    def test_true_claims(self):
        for claim in claims():
            self.assertIs(True, is_claim(value=claim))
            paper = paper_of(claim=claim)
            self.assertIsNotNone(paper)
            self.assertIs(True, is_paper(value=paper, claim=claim))

    def test_claims_that_are_not_true(self):
        papers = [paper_of(claim) for claim in claims()]
        for claim in false_claims():
            self.assertIs(True, is_claim(claim))
            self.assertIsNone(paper_of(claim))
            for paper in papers + odd_values():
                self.assertIs(False, is_paper(claim, paper), claim[0])

    def test_no_claims(self):
        for value in wrong_claims() + odd_values():
            self.assertIs(False, is_claim(value))
            self.refused(InvalidClaim, value, paper_of, value)
            self.refused(InvalidClaim, value, is_paper, value, None)

    def test_papers_are_those_of_the_stages(self):
        merge = Merge(*ABA, Costs())
        left = merge.settled((1, 0), True)
        readings = Readings(OLD, NEW, Costs())
        self.assertIs(True, is_paper(("row", left, ("a", "c")), written_paper(left)[1]))
        self.assertIs(True, is_paper(("parts", merge, (1, 0)), merge.parted((1, 0))))
        self.assertIs(True, is_paper(("common", merge, common_numbers(merge)), (common_pick(merge), common_paper(merge))))
        self.assertIs(True, is_paper(("matters", readings, ("goes", 1), 0), parted_readings(readings, ("goes", 1), 0)))
        self.assertIs(True, is_paper(("greatest", readings, WEIGHTS, 7), greatest_value(readings, WEIGHTS)[1]))
        self.assertIs(True, is_paper(("smallest", readings, WEIGHTS, 0), least_value(readings, WEIGHTS)[1]))

    def test_papers_of_other_claims(self):
        told = claims()
        papers = [paper_of(claim) for claim in told]
        for at, claim in enumerate(told):
            for other, paper in enumerate(papers):
                # Papers of other claims of the same kind may be right for both.
                if at == other or claim[0] != told[other][0]:
                    self.assertIs(at == other, is_paper(claim, paper))
            for value in odd_values():
                self.assertIs(False, is_paper(claim, value))

    def test_papers_with_a_thing_less_more_or_another_one(self):
        for claim in claims():
            paper = paper_of(claim)
            for value in self.changed(paper):
                self.assertIs(False, is_paper(claim, value), (claim[0], value))

    def changed(self, paper):
        if isinstance(paper, dict):
            first = next(iter(paper))
            return [
                {key: paper[key] for key in list(paper)[1:]}, {key: paper[key] for key in list(paper)[:-1]}, {**paper, "more": 0},
                {**paper, first: paper[first] + 1 if isinstance(paper[first], int) else (0, 1)}, list(paper), {},
            ]
        found = [list(paper), paper[:-1], (*paper, paper[-1]), paper[::-1], (None, *paper[1:]), (*paper[:-1], None), ()]
        if isinstance(paper[-1], dict):
            found += [(*paper[:-1], other) for other in self.changed(paper[-1])]
        if isinstance(paper[-1], list):
            found += [(*paper[:-1], paper[-1][:-1]), (*paper[:-1], [*paper[-1], paper[-1][0]])]
            found += [(*paper[:-1], [[number + 1 for number in row] for row in paper[-1]])]
        return found

    def test_a_common_paper_with_another_pick(self):
        merge = Merge(*ABA, Costs())
        claim, paper = ("common", merge, (0, 3)), common_paper(merge)
        self.assertIs(True, is_paper(claim, (((0,), ()), paper)))
        for pick in (((), ()), [(0,), ()], ((0,), (0,)), ([0], ()), None, Liar(), ((True,), ())):
            self.assertIs(False, is_paper(claim, (pick, paper)))

    def test_readings_with_settled_choices(self):
        for plain, readings, left in list(all_left())[::3]:
            diffs = {reading: plain.diff_of(reading) for reading in left}
            for answer in answers_of_all_kinds(plain.old, plain.new)[::4]:
                values = {told: plain_value(diffs[told], plain.old, plain.new, answer) for told in left}
                for choice in range(len(plain.choices)):
                    claim, found = ("matters", readings, answer, choice), parted(left, values, choice)
                    paper = paper_of(claim)
                    self.assertTrue(paper in found if found else paper is None)
                    self.assertIs(bool(found), is_paper(claim, paper))
            for answer in some_measures(plain.old, plain.new)[:2]:
                values = [plain_value(diffs[told], plain.old, plain.new, answer) for told in left]
                for number in {min(values), max(values), min(values) - 1, max(values) + 1, 0}:
                    for kind, extreme in (("greatest", max(values)), ("smallest", min(values))):
                        claim = (kind, readings, answer, number)
                        self.assertIs(number == extreme, paper_of(claim) is not None)
                        self.assertIs(number == extreme, is_paper(claim, paper_of(claim)))

    def test_merges_with_settled_choices(self):
        for plain in settled_merges():
            merge, rows, least = plain.merge(), set(plain.rows.values()), plain.common_numbers()
            for row in [*rows, (), ("q",)]:
                claim = ("row", merge, row)
                self.assertIs(rows == {row}, paper_of(claim) is not None)
                self.assertIs(rows == {row}, is_paper(claim, paper_of(claim)))
            for choice in plain.choices():
                claim = ("parts", merge, choice)
                self.assertIs(choice in plain.core(), paper_of(claim) is not None)
                self.assertIs(choice in plain.core(), is_paper(claim, paper_of(claim)))
            for numbers in (least, (least[0], least[1] + 1), (least[0] + 1, least[1]), (least[0], least[1] - 1)):
                claim = ("common", merge, numbers)
                self.assertIs(numbers == least, paper_of(claim) is not None)
                self.assertIs(numbers == least, is_paper(claim, paper_of(claim)))

    def test_statements_and_least_costs(self):
        for old, new in ((OLD, NEW), (["a", "a"], ["a"]), ([], ["x"]), (["x", "y"], ["y", "x"]), (["a", "b"], ["a", "b"])):
            for costs in (Costs(), Costs(3, 2, {"a": (1, 9)})):
                least = least_cost(old, new, costs)
                for number in range(least - 1, least + 2):
                    self.assertIs(number == least, paper_of(("least", old, new, costs, number)) is not None)
                answers = [("goes", i) for i in range(1, len(old) + 1)] + [("comes", j) for j in range(1, len(new) + 1)]
                answers += [("pair", i, j) for _, i in answers[:len(old)] for _, j in answers[len(old):]]
                for statement in [(answer, value) for answer in answers for value in (True, False)]:
                    claim = ("sure", tuple(old), new, costs, statement)
                    self.assertIs(is_sure_statement(old, new, costs, statement), paper_of(claim) is not None)
                    self.assertIs(paper_of(claim) is not None, is_paper(claim, paper_of(claim)))

    def test_papers_are_new(self):
        claim = claims()[7]
        paper_of(claim).clear()
        self.assertIs(True, is_paper(claim, paper_of(claim)))


if __name__ == "__main__":
    unittest.main()
