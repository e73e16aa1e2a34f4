import unittest

from alldiffs.costs import Costs
from alldiffs.errors import InvalidAnswer, InvalidChoice
from alldiffs.measures import greatest_value, is_extreme, least_value, price_of, prices_of
from alldiffs.readings import Readings
from tests.search import Grudge, Liar, odd_values
from tests.test_answers import NO_ANSWERS, plain_value, some_measures
from tests.test_choices import NO_CHOICES, XY, XYXY
from tests.test_readings import LONG, MIXED, NO_READINGS, ReadingCase, all_left

PAIRS = ("measure", {}, {}, {(1, 1): 5, (4, 2): 3})
OTHER_KINDS = [("pair", 1, 1), ("goes", 1), ("comes", 1), ("partner", 1), ("mate", 1), ("all", PAIRS)]


class Prices(ReadingCase):
    def setUp(self):
        self.readings = Readings(XYXY, XY, Costs())

    def test_small_ones(self):
        self.assertEqual({0: 5, 1: -3}, prices_of(self.readings, PAIRS))
        self.assertEqual([5, -3], [price_of(self.readings, PAIRS, 0), price_of(choice=1, answer=PAIRS, readings=self.readings)])
        readings = Readings(["a", "b", "a"], ["a"], Costs())
        self.assertEqual(0, price_of(readings, ("measure", {1: 1, 2: 1, 3: 1}, {}, {}), 0))
        self.assertEqual(4 - 1, price_of(readings, ("measure", {1: 1, 2: 2, 3: 4}, {}, {}), 0))
        readings = Readings(["a"], ["a", "a"], Costs())
        self.assertEqual(1 - 4 + 2, price_of(readings, ("measure", {}, {1: 1, 2: 4}, {(1, 2): 2}), 0))

    def test_settled_choices_have_a_price(self):
        left = self.readings.settled(0, True)
        self.assertEqual(({1: -3}, 5, -3), (prices_of(left, PAIRS), price_of(left, PAIRS, 0), price_of(left, PAIRS, 1)))
        self.assertEqual({}, prices_of(left.settled(1, True), PAIRS))
        self.assertEqual([0, 1], list(prices_of(readings=self.readings, answer=PAIRS)))

    def test_by_all_readings(self):
        for plain, readings, left in all_left():
            for answer in some_measures(plain.old, plain.new):
                prices = prices_of(readings, answer)
                self.assertEqual(readings.free(), tuple(prices))
                values = {told: plain_value(plain.diff_of(told), plain.old, plain.new, answer) for told in left}
                first = min(left, key=len)
                for told in left:
                    more = [prices[choice] for choice in told if choice not in first]
                    self.assertEqual(values[told], values[first] + sum(more))
                for choice in range(len(plain.choices)):
                    price = price_of(readings, answer, choice)
                    self.assertEqual(prices.get(choice, price), price)
                    parts = [
                        (one, other) for one in plain.readings() for other in plain.readings()
                        if choice not in one and {*one, choice} == {*other}
                    ]
                    one, other = parts[0]
                    diffs = [plain.diff_of(told) for told in (one, other)]
                    unlike = [plain_value(diff, plain.old, plain.new, answer) for diff in diffs]
                    self.assertEqual(unlike[1] - unlike[0], price)

    def test_refused(self):
        for value in NO_ANSWERS + odd_values() + OTHER_KINDS:
            self.refused(InvalidAnswer, value, price_of, self.readings, value, 9)
            self.refused(InvalidAnswer, value, prices_of, self.readings, value)
            self.refused(InvalidAnswer, value, greatest_value, self.readings, value)
            self.refused(InvalidAnswer, value, least_value, self.readings, value)
            self.refused(InvalidAnswer, value, is_extreme, self.readings, value, 0, None)
        for value in NO_CHOICES + [value for value in odd_values() if not isinstance(value, int)]:
            self.refused(InvalidChoice, value, price_of, self.readings, PAIRS, value)
        none_free = self.readings.settled(1, True)
        for value in OTHER_KINDS + [("goes", 5), None]:
            self.refused(InvalidAnswer, value, prices_of, none_free, value)

    def test_what_is_told_is_new(self):
        told = prices_of(self.readings, PAIRS)
        told.clear()
        self.assertEqual({0: 5, 1: -3}, prices_of(self.readings, PAIRS))
        for call in (greatest_value, least_value):
            _, (_, heights) = call(self.readings, PAIRS)
            heights.clear()
            self.assertEqual(9, len(call(self.readings, PAIRS)[1][1]))
        self.assertEqual(("measure", {}, {}, {(1, 1): 5, (4, 2): 3}), PAIRS)


class Extremes(ReadingCase):
    def setUp(self):
        self.readings = Readings(XYXY, XY, Costs())

    def test_small_ones(self):
        value, (reading, heights) = greatest_value(readings=self.readings, answer=PAIRS)
        self.assertEqual((8, (0,), 0, 8), (value, reading, heights[(0, 0)], heights[(4, 2)]))
        value, (reading, heights) = least_value(readings=self.readings, answer=PAIRS)
        self.assertEqual((3, (), 0, 3), (value, reading, heights[(0, 0)], heights[(4, 2)]))
        self.assertEqual((5, (0, 1)), (least_value(self.readings.settled(0, True), PAIRS)[0], (0, 1)))
        empty = Readings([], [], Costs())
        for call in (greatest_value, least_value):
            self.assertEqual((0, ((), {(0, 0): 0})), call(empty, ("measure", {}, {}, {})))

    def test_by_all_readings(self):
        for plain, readings, left in all_left():
            for answer in some_measures(plain.old, plain.new):
                values = {told: plain_value(plain.diff_of(told), plain.old, plain.new, answer) for told in left}
                most, least = max(values.values()), min(values.values())
                self.assert_paper(readings, answer, greatest_value(readings, answer), most, values, False)
                self.assert_paper(readings, answer, least_value(readings, answer), least, values, True)

    def assert_paper(self, readings, answer, told, number, values, least):
        self.assertIs(tuple, type(told))
        self.assertEqual((number, number), (told[0], values[told[1][0]]))
        reading, heights = told[1]
        self.assertEqual(set(readings.places()), set(heights))
        self.assertIs(True, is_extreme(readings, answer, number, told[1], least=least))
        end = (len(readings.old), len(readings.new))
        for other in {value for value in values.values() if value != number} | {number + 1, number - 1}:
            self.assertIs(False, is_extreme(readings, answer, other, told[1], least=least))
            for one in values:
                bent = {place: height for place, height in heights.items()}
                bent[end] = other
                if values[one] == other:
                    self.assertIs(False, is_extreme(readings, answer, other, (one, bent), least=least))
        for one in values:
            self.assertIs(values[one] == number, is_extreme(readings, answer, number, (one, heights), least=least))

    def test_is_extreme_by_the_words(self):
        for plain, readings, left in list(all_left())[::3]:
            for answer in some_measures(plain.old, plain.new)[2:4]:
                for least, call in ((False, greatest_value), (True, least_value)):
                    number, (reading, heights) = call(readings, answer)
                    for place in heights:
                        for more in (-1, 1, 2000000, -2000000):
                            bent = {**heights, place: heights[place] + more}
                            expected = self.is_paper(plain, readings, answer, number, bent, least)
                            self.assertIs(expected, is_extreme(readings, answer, number, (reading, bent), least=least))

    def is_paper(self, plain, readings, answer, number, heights, least):
        """Whether the heights, of all places that are left, show that the number is an extreme."""
        if heights[(0, 0)] != 0 or heights[(len(plain.old), len(plain.new))] != number:
            return False
        _, going, coming, pairs = answer
        for place in readings.places():
            for (i, j), (k, n) in readings.steps(place):
                weight = pairs.get((k, n), 0) if i < k and j < n else going.get(k, 0) if i < k else coming.get(n, 0)
                rise = heights[(k, n)] - heights[(i, j)] - weight
                if (rise > 0) if least else (rise < 0):
                    return False
        return True

    def test_heights_may_be_greater_than_they_must(self):
        readings = Readings(["a", "b", "a"], ["a"], Costs())
        answer = ("measure", {1: -9}, {}, {})
        number, (reading, heights) = greatest_value(readings, answer)
        self.assertEqual((0, (0,), -9), (number, reading, heights[(1, 0)]))
        for height, fits in ((-9, True), (-10, False), (-5, True), (0, True), (1, False)):
            told = {**heights, (1, 0): height, (2, 0): height}
            self.assertIs(fits, is_extreme(readings, answer, 0, (reading, told)), height)
        number, (reading, heights) = least_value(readings, ("measure", {1: 9}, {}, {}))
        for height, fits in ((9, True), (10, False), (5, True), (0, True), (-1, False)):
            told = {**heights, (1, 0): height, (2, 0): height}
            self.assertIs(fits, is_extreme(readings, ("measure", {1: 9}, {}, {}), 0, (reading, told), least=True))

    def test_is_extreme_for_any_value(self):
        readings = self.readings.settled(0, True)
        number, (reading, heights) = greatest_value(readings, PAIRS)
        self.assertIs(True, is_extreme(answer=PAIRS, readings=readings, value=(reading, heights), number=number))
        self.assertIs(False, is_extreme(readings, PAIRS, number, (reading, heights), least=True))
        shuffled = {place: heights[place] for place in sorted(heights, reverse=True)}
        self.assertIs(True, is_extreme(readings, PAIRS, number, (reading, shuffled)))
        other = {**heights}
        del other[(1, 1)]
        place = (1, 1)
        for value in odd_values() + [
            [reading, heights], (reading,), (reading, heights, heights), (heights, reading), (reading, other),
            (reading, {**heights, (0, 1): 0}), (reading, {**heights, (0, 1): 10 ** 9}), (reading, {**heights, "more": 0}),
            (reading, {**other, "more": 0}), (reading, {**other, (9, 9): 0}), (reading, {**other, (1, 0): 0}),
            (reading, {**other, (True, 1): heights[place]}), (reading, {**other, (1, True): heights[place]}),
            (reading, {**heights, (0, 0): False}), (reading, {**heights, (1, 1): None}), (reading, {**heights, (1, 1): "5"}),
            (reading, {**heights, (1, 1): Liar()}), (reading, {**heights, (1, 1): Grudge()}),
            (reading, {**other, Liar(): 5}), (reading, {**heights, Liar(): 5}), (reading, {**other, (Liar(), 1): 5}),
            (reading, list(heights.items())), (reading, sorted(heights)), (reading, None), (reading, {}), ((), heights),
            ((0, 1), heights), (list(reading), heights), (None, heights), ((False,), heights), (Liar(), heights),
            (Grudge(), heights), (reading, Liar()), (reading, Grudge()),
        ]:
            self.assertIs(False, is_extreme(readings, PAIRS, number, value))
        for value in NO_READINGS:
            self.assertIs(False, is_extreme(readings, PAIRS, number, (value, heights)))
        for value in odd_values() + [number + 1, number - 1, -number, str(number), (number,), Liar(), Grudge()]:
            self.assertIs(False, is_extreme(readings, PAIRS, value, (reading, heights)))

    def test_a_bool_is_no_number(self):
        readings = Readings(["a", "a"], ["a"], Costs())
        answer = ("measure", {}, {}, {(1, 1): 1})
        number, paper = greatest_value(readings, answer)
        self.assertEqual(1, number)
        self.assertEqual([True, False], [is_extreme(readings, answer, told, paper) for told in (1, True)])
        number, paper = least_value(readings, answer)
        told = [is_extreme(readings, answer, told, paper, least=True) for told in (0, False)]
        self.assertEqual([True, False], told)
        bent = (paper[0], {**paper[1], (2, 1): False})
        self.assertIs(False, is_extreme(readings, answer, 0, bent, least=True))

    def test_great_weights_and_long_texts(self):
        readings = Readings(*LONG, Costs())
        every = ("measure", {i: 999999 for i in range(1, 61)}, {}, {})
        self.assertEqual([30 * 999999] * 2, [call(readings, every)[0] for call in (greatest_value, least_value)])
        first = ("measure", {i: 999999 for i in range(1, 31)}, {}, {})
        self.assertEqual((30 * 999999, ()), (greatest_value(readings, first)[0], greatest_value(readings, first)[1][0]))
        number, (reading, heights) = least_value(readings, first)
        self.assertEqual((0, readings.last()), (number, reading))
        self.assertIs(True, is_extreme(readings, first, 0, (reading, heights), least=True))
        self.assertIs(False, is_extreme(readings, first, 0, (reading, {**heights, (5, 5): 1}), least=True))
        ends = ("measure", {}, {}, {(i, j): (i * j * 7919) % 1999999 - 999999 for i in range(1, 61) for j in range(1, 31)})
        for told in (readings, readings.settled_as((450, True), (100, False))):
            most, paper = greatest_value(told, ends)
            least, other = least_value(told, ends)
            self.assertGreater(most, least)
            self.assertIs(True, is_extreme(told, ends, most, paper))
            self.assertIs(True, is_extreme(told, ends, least, other, least=True))
            for reading in (told.first(), told.last(), told.nth(told.count() // 2), told.nth(told.count() // 3)):
                value = plain_value(told.diff_of(reading), *LONG, ends)
                self.assertTrue(least <= value <= most)
                self.assertIs(False, is_extreme(told, ends, value, (reading, paper[1])))

    def test_texts_of_two_letters(self):
        readings = Readings(*MIXED, Costs())
        answer = ("measure", {i: i for i in range(1, 61)}, {j: -j for j in range(1, 61)}, {})
        prices = prices_of(readings, answer)
        self.assertEqual(len(readings.known), len(prices))
        most, (reading, _) = greatest_value(readings, answer)
        start = plain_value(readings.diff_of(()), *MIXED, answer)
        self.assertEqual(most, start + sum(prices[choice] for choice in reading))


if __name__ == "__main__":
    unittest.main()
