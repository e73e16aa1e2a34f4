import unittest
from itertools import combinations, islice

from alldiffs.choices import Choices
from alldiffs.costs import Costs
from alldiffs.errors import (
    InvalidChoice, InvalidCosts, InvalidCount, InvalidDiff, InvalidPlace, InvalidReading, InvalidText, NotLeast,
    Settled,
)
from alldiffs.readings import Readings
from tests.search import (
    Grudge, Liar, Plain, all_diffs, all_ways, diff_of_way, least_ways, odd_values, price, some_texts, texts_up_to,
)
from tests.test_choices import NO_CHOICES, XY, XYXY, costs_of

LONG = (["a"] * 60, ["a"] * 30)
MIXED = (["a", "b"] * 30, ["a"] * 30 + ["b"] * 30)
NO_READINGS = [
    [0], [], (1,), (1, 0), (0, 0), (0, 2), (2,), (-1,), (False,), (0, True), ("0",), (0, None), (Liar(),), (0, Liar()),
    (Grudge(),), (0, Grudge()), ((),), ((0,),), (0, (1,)), {0: True}, 0, None, "", "01", (10 ** 25,),
]


class ReadingCase(unittest.TestCase):
    def refused(self, error, value, call, *args, **named):
        with self.assertRaises(error) as caught:
            call(*args, **named)
        self.assertIs(value, next(iter(vars(caught.exception).values())))


def every_way_to_settle(plain):
    """Lists of tuples (choice, made) that leave some reading, two at most, each with the readings that are left."""
    numbers = range(len(plain.choices))
    told = [()] + [((k, made),) for k in numbers for made in (True, False)]
    told += [
        ((k, one), (n, other)) for k, n in combinations(numbers, 2) for one in (True, False) for other in (True, False)
    ]
    for pairs in told:
        left = [reading for reading in plain.readings() if all((k in reading) is made for k, made in pairs)]
        if left:
            yield pairs, left


def all_left():
    """(Plain, Readings, the readings that are left, sorted by their diffs) of short texts, with some settled."""
    for old, new, going, coming in some_texts():
        plain = Plain(old, new, going, coming)
        readings = Readings(old, new, costs_of(going, coming))
        for pairs, left in every_way_to_settle(plain):
            yield plain, readings.settled_as(*pairs), left


class TheReadings(ReadingCase):
    def setUp(self):
        self.readings = Readings(XYXY, XY, Costs())

    def test_the_examples(self):
        readings = self.readings
        self.assertEqual([((0, 1), ((1, 1), (2, 2))), ((0,), ((1, 1), (4, 2))), ((), ((3, 1), (4, 2)))], [
            (reading, readings.diff_of(reading)) for reading in readings.in_order()
        ])
        self.assertEqual([(0,), (0, 1), [(), (0,), (0, 1)]], [
            readings.reading_of(((1, 1), (4, 2))), readings.flips((0,)), readings.path((), (0, 1))
        ])
        left = readings.settled(1, True)
        self.assertEqual("[Readings(4, 2, {0: True, 1: True}), (0, 1), 1, (0, 1), ()]", repr(
            [left, left.first(), left.count(), left.nth(0), left.free()]
        ))
        self.assertEqual([[(1, 1), (3, 1)], [(2, 2), (4, 2)], [(2, 2), (4, 2)]], [
            readings.following((0, 0)), readings.following((1, 1)), readings.leading((5, 3))
        ])

    def test_each_least_diff_of_one_reading(self):
        for old, new, going, coming in some_texts():
            readings = Readings(old, new, costs_of(going, coming))
            prices = {diff: price(old, new, diff, going or {}, coming or {}) for diff in all_diffs(old, new)}
            least = sorted(diff for diff in prices if prices[diff] == min(prices.values()))
            told = list(readings.in_order())
            self.assertEqual(least, [readings.diff_of(reading) for reading in told])
            self.assertEqual(told, [readings.reading_of(diff) for diff in least])
            self.assertEqual((len(least), len(least)), (len(set(told)), readings.count()))
            self.assertEqual(told, Plain(old, new, going, coming).readings())

    def test_each_least_diff_of_few_letters(self):
        for old in texts_up_to(4, "ab")[::3]:
            for new in texts_up_to(4, "ab")[::2]:
                readings = Readings(old, new, Costs())
                least = sorted({diff_of_way(way) for way in least_ways(old, new, {}, {})})
                told = list(readings.in_order())
                self.assertEqual(least, [readings.diff_of(reading) for reading in told])
                self.assertEqual(told, [readings.reading_of(diff) for diff in least])
                self.assertEqual(len(least), readings.count())
                self.assertEqual(Plain(old, new).readings(), told)

    def test_what_is_left_by_a_search(self):
        for plain, readings, left in all_left():
            self.assertEqual(left, list(readings.in_order()))
            self.assertEqual(left, [readings.nth(number) for number in range(len(left))])
            self.assertEqual(list(range(len(left))), [readings.position(reading) for reading in left])
            self.assertEqual(len(left), readings.count())
            self.assertEqual([plain.diff_of(reading) for reading in left], [readings.diff_of(told) for told in left])
            self.assertEqual(left, [readings.reading_of(plain.diff_of(reading)) for reading in left])
            for reading in plain.readings():
                self.assertIs(reading in left, reading in readings)
            numbers = range(len(plain.choices))
            made = [k for k in numbers if all(k in reading for reading in left)]
            unmade = [k for k in numbers if all(k not in reading for reading in left)]
            self.assertEqual(tuple(k for k in numbers if k not in made + unmade), readings.free())
            self.assertEqual((tuple(made), tuple(k for k in numbers if k not in unmade)), (
                readings.first(), readings.last()
            ))
            held = {k: k in made for k in sorted(made + unmade)}
            self.assertEqual((held, list(held)), (readings.held(), list(readings.held())))
            self.assertEqual(f"Readings({len(plain.old)}, {len(plain.new)}, {held})", repr(readings))

    def test_texts_without_lines(self):
        for old, new in (([], []), (["a"], []), ([], ["a", "b"]), (["a"], ["b"])):
            readings = Readings(old, new, Costs())
            self.assertEqual(([()], 1, (), (), (), {}, (), 0, ()), (
                list(readings.in_order()), readings.count(), readings.first(), readings.last(), readings.free(),
                readings.held(), readings.nth(0), readings.position(()), readings.diff_of(()),
            ))
            last = (len(old) + 1, len(new) + 1)
            self.assertEqual([(0, 0), last], readings.nodes())
            self.assertEqual(([last], [], [(0, 0)], []), (
                readings.following((0, 0)), readings.following(last), readings.leading(last), readings.leading((0, 0))
            ))
            self.assertEqual([()], readings.path((), ()))
            self.assertEqual(((), (), ()), (readings.reading_of(()), readings.both((), ()), readings.either((), ())))
        self.assertEqual([(0, 0)], Readings([], [], Costs()).places())
        self.assertEqual([], Readings([], [], Costs()).steps((0, 0)))

    def test_readings_for_any_value(self):
        readings, left = self.readings, self.readings.settled(0, True)
        self.assertEqual([True, True, True], [told in readings for told in ((), (0,), (0, 1))])
        self.assertEqual([False, True, True], [told in left for told in ((), (0,), (0, 1))])
        calls = [
            readings.diff_of, readings.flips, readings.position, lambda value: readings.made(value, None),
            lambda value: readings.unmade(value, None), lambda value: readings.both(value, 5),
            lambda value: readings.both((), value), lambda value: readings.either(value, 5),
            lambda value: readings.either((), value), lambda value: readings.path(value, 5),
            lambda value: readings.path((), value),
        ]
        for value in NO_READINGS + odd_values():
            self.assertIs(False, value in readings)
            for call in calls:
                self.refused(InvalidReading, value, call, value)
        for call in (left.diff_of, left.flips, left.position):
            self.refused(InvalidReading, (), call, ())
        left = readings.settled(1, False)
        for value in ((0, 1), (1,)):
            self.assertIs(False, value in left)
            self.refused(InvalidReading, value, left.diff_of, value)

    def test_reading_of_refuses(self):
        readings = self.readings
        for value in odd_values() + [
            ((1, 2),), ((1, 1), (1, 1)), ((2, 2), (1, 1)), [(1, 1), (2, 2)], ((True, 1), (2, 2)), ((5, 1),),
            ((1, 1), (2, True)), ((0, 0),), ((1, 1), Grudge()), ((1, 1), Liar()),
        ]:
            self.refused(InvalidDiff, value, readings.reading_of, value)
        for diff, cost in (((), 6), (((1, 1),), 4), (((3, 1),), 4), (((2, 2),), 4)):
            with self.assertRaises(NotLeast) as caught:
                readings.reading_of(diff)
            self.assertEqual(cost, caught.exception.cost)
        costs = Costs(1, 1, {"x": (7, 1), "y": (1, 5)})
        with self.assertRaises(NotLeast) as caught:
            Readings(XYXY, XY, costs).reading_of(diff=((2, 2),))
        self.assertEqual(7 + 7 + 1 + 1, caught.exception.cost)
        self.assertEqual((0, 1), readings.reading_of(diff=((1, 1), (2, 2))))

    def test_reading_of_what_is_settled_otherwise(self):
        for plain, readings, left in all_left():
            for reading in plain.readings():
                held = readings.held()
                wrong = [k for k in held if (k in reading) is not held[k]]
                diff = plain.diff_of(reading)
                if wrong:
                    with self.assertRaises(Settled) as caught:
                        readings.reading_of(diff)
                    self.assertEqual(wrong[0], caught.exception.choice)
        with self.assertRaises(NotLeast):
            self.readings.settled(0, True).reading_of(((3, 1),))

    def test_counts_refused(self):
        for value in [3, 4, -1, True, False, None, "0", (0,), [0], 10 ** 25, -10 ** 25] + [
            value for value in odd_values() if not isinstance(value, int)
        ]:
            self.refused(InvalidCount, value, self.readings.nth, value)
        left = self.readings.settled_as((0, True), (1, False))
        self.assertEqual((0,), left.nth(number=0))
        self.refused(InvalidCount, 1, left.nth, 1)

    def test_of_a_choices(self):
        known = Choices(XYXY, XY, Costs())
        readings = Readings.of(known)
        self.assertIs(Readings, type(readings))
        self.assertEqual((self.readings, known), (readings, readings.known))
        self.assertEqual((XYXY, XY, Costs(), 3), (readings.old, readings.new, readings.costs, readings.count()))
        self.assertEqual(readings, Readings.of(known=known))
        self.assertEqual((), Readings.of(Choices([], [], Costs())).first())

    def test_properties(self):
        old, new, costs = tuple(XYXY), list(XY), Costs(2, 3)
        readings = Readings(costs=costs, new=new, old=old)
        new.append("z")
        readings.old.append("z")
        readings.new.clear()
        self.assertEqual((XYXY, XY, Costs(2, 3)), (readings.old, readings.new, readings.costs))
        self.assertEqual(Choices(XYXY, XY, costs), readings.known)
        self.assertEqual(Choices(XYXY, XY, costs), readings.settled(0, False).known)
        self.assertEqual((list, list), (type(readings.old), type(readings.new)))
        self.assertEqual(2, len(readings.settled(1, True).known))

    def test_refused(self):
        for args, error, value in (
            (("o", "n", 5), InvalidText, "o"), (([], "n", 5), InvalidText, "n"), (([], [], 5), InvalidCosts, 5),
            ((["a"] * 61, [], 5), InvalidText, ["a"] * 61), (([], [], (1, 1)), InvalidCosts, (1, 1)),
        ):
            with self.assertRaises(error) as caught:
                Readings(*args)
            self.assertEqual(value, caught.exception.value)
        for value in odd_values():
            with self.assertRaises(InvalidCosts) as caught:
                Readings([], [], value)
            self.assertEqual("costs", caught.exception.problem)
            self.assertRaises(InvalidText, Readings, value, value, value)

    def test_what_is_told_is_new(self):
        readings = self.readings.settled(0, True)
        for _ in range(2):
            for told in (readings.nodes(), readings.following((1, 1)), readings.leading((2, 2)), readings.places(),
                         readings.steps((1, 1)), readings.path((0,), (0, 1)), readings.held(), readings.old):
                told.clear()
        self.assertEqual([(0, 0), (1, 1), (2, 2), (4, 2), (5, 3)], readings.nodes())
        self.assertEqual(([(2, 2), (4, 2)], [(1, 1)], {0: True}, [(0,), (0, 1)]), (
            readings.following((1, 1)), readings.leading((2, 2)), readings.held(), readings.path((0,), (0, 1))
        ))
        self.assertEqual([((1, 1), (2, 1)), ((1, 1), (2, 2))], readings.steps((1, 1)))

    def test_generators_beside_one_another(self):
        one, other = self.readings.in_order(), self.readings.in_order()
        self.assertEqual([(0, 1), (0, 1), (0,), (), (0,), ()], [
            next(one), next(other), next(other), next(other), next(one), next(one)
        ])
        self.assertEqual([None, None], [next(one, None), next(other, None)])

    def test_equal(self):
        readings = self.readings
        self.assertIs(True, readings == Readings(tuple(XYXY), tuple(XY), Costs()))
        self.assertIs(True, readings.settled(1, True) == readings.settled(0, True).settled(1, True))
        self.assertIs(False, readings.settled(1, True) != readings.settled_as((1, True)))
        for other in (readings.settled(0, True), readings.settled(1, False), Readings(XY, XYXY, Costs()),
                      Readings(XYXY, XY, Costs(1, 2)), readings.known, None, 0, (), object(), "Readings(4, 2, {})"):
            self.assertIs(False, readings == other)
            self.assertIs(True, readings != other)
        self.assertIs(False, readings.settled(0, True) == readings.settled(0, False))


class Making(ReadingCase):
    def test_flips_by_a_search(self):
        for plain, readings, left in all_left():
            for reading in left:
                flips = [
                    k for k in range(len(plain.choices)) if tuple(sorted({*reading} ^ {k})) in left
                ]
                self.assertEqual(tuple(flips), readings.flips(reading=reading))

    def test_made_and_unmade_by_a_search(self):
        for plain, readings, left in all_left():
            held = readings.held()
            for reading in left[:6]:
                for k in range(len(plain.choices)):
                    if held.get(k) is not False:
                        least = min((told for told in left if {*reading, k} <= {*told}), key=len)
                        self.assertEqual(least, readings.made(reading=reading, choice=k))
                    else:
                        self.refused(Settled, k, readings.made, reading, k)
                    if held.get(k) is not True:
                        most = max((told for told in left if {*told} <= {*reading} - {k}), key=len)
                        self.assertEqual(most, readings.unmade(reading=reading, choice=k))
                    else:
                        self.refused(Settled, k, readings.unmade, reading, k)

    def test_both_and_either_by_a_search(self):
        for _, readings, left in all_left():
            for one in left[:5]:
                for other in left[-5:]:
                    both, either = tuple(sorted({*one} & {*other})), tuple(sorted({*one} | {*other}))
                    self.assertEqual((both, either), (
                        readings.both(one=one, other=other), readings.either(one=one, other=other)
                    ))
                    self.assertTrue(both in left and either in left)

    def test_path_by_a_search(self):
        for plain, readings, left in all_left():
            for one in left[:5]:
                for other in left[-5:]:
                    path = readings.path(one=one, other=other)
                    self.assertEqual(self.path_by_the_words(plain, one, other), path)
                    self.assertTrue(all(reading in left for reading in path))

    def path_by_the_words(self, plain, one, other):
        path = [one]
        while set(path[-1]) - set(other):
            extra = sorted(set(path[-1]) - set(other), reverse=True)
            path.append(next(
                told for told in (tuple(k for k in path[-1] if k != gone) for gone in extra) if plain.is_closed(told)
            ))
        while path[-1] != other:
            lacking = sorted(set(other) - set(path[-1]))
            path.append(next(
                told for told in (tuple(sorted((*path[-1], more))) for more in lacking) if plain.is_closed(told)
            ))
        self.assertEqual(len(set(one) ^ set(other)) + 1, len(path))
        return path

    def test_choices_refused_behind_the_reading(self):
        readings = Readings(XYXY, XY, Costs()).settled(0, True)
        for call in (readings.made, readings.unmade):
            for value in NO_CHOICES + [value for value in odd_values() if not isinstance(value, int)]:
                self.refused(InvalidChoice, value, call, (0,), value)
                self.refused(InvalidReading, (1,), call, (1,), value)
        self.refused(Settled, 0, readings.unmade, (0,), 0)
        self.assertEqual([(0,), (0, 1)], [readings.made((0,), 0), readings.made((0, 1), 0)])
        readings = Readings(XYXY, XY, Costs()).settled(1, False)
        self.refused(Settled, 1, readings.made, (0,), 1)
        self.refused(InvalidReading, (0, 1), readings.made, (0, 1), 1)
        self.assertEqual([(0,), ()], [readings.unmade((0,), 1), readings.unmade((), 1)])

    def test_a_path_with_great_numbers_first(self):
        readings = Readings(list("aaaa"), list("aa"), Costs())
        path = readings.path(readings.last(), readings.first())
        self.assertEqual(5, len(path))
        self.assertEqual(self.path_by_the_words(Plain(list("aaaa"), list("aa")), path[0], path[-1]), path)


class SettledReadings(ReadingCase):
    def test_settled_by_a_search(self):
        for plain, readings, left in all_left():
            held, before = readings.held(), repr(readings)
            for k in range(len(plain.choices)):
                for made in (True, False):
                    if held.get(k) is (not made):
                        self.refused(Settled, k, readings.settled, k, made)
                        continue
                    told = readings.settled(choice=k, made=made)
                    self.assertEqual([one for one in left if (k in one) is made], list(told.in_order()))
                    self.assertEqual(held.get(k) is made, told == readings)
                    for other in (plain.choices_ahead(k) if made else plain.choices_behind(k)):
                        self.assertIs(made, told.held()[other])
            self.assertEqual((before, left), (repr(readings), list(readings.in_order())))

    def test_errors(self):
        readings = Readings(XYXY, XY, Costs())
        for value in NO_CHOICES + [value for value in odd_values() if not isinstance(value, int)]:
            self.refused(InvalidChoice, value, readings.settled, value, True)
            self.refused(InvalidChoice, value, readings.settled_as, (0, True), (value, False), (0, False))
        self.refused(Settled, 0, readings.settled_as, (1, True), (0, False))
        self.refused(Settled, 1, readings.settled_as, (0, False), (1, True), (5, True))
        self.refused(Settled, 1, readings.settled(0, False).settled, 1, True)
        self.assertEqual(Readings(XYXY, XY, Costs()), readings)

    def test_settled_as(self):
        readings = Readings(list("aaaa"), list("aa"), Costs())
        self.assertEqual(readings, readings.settled_as())
        for one in range(4):
            for other in range(4):
                if one != other and one not in readings.known.ahead(other):
                    told = readings.settled_as((one, False), (other, True))
                    self.assertEqual(readings.settled(one, False).settled(other, True), told)
        self.assertEqual(readings.settled(2, True), readings.settled(2, True).settled_as((2, True), (2, True)))

    def test_choices_keep_their_numbers(self):
        readings = Readings(XYXY, XY, Costs()).settled(0, True)
        self.assertEqual(((1,), {0: True}, (0,), (0, 1)), (
            readings.free(), readings.held(), readings.first(), readings.last()
        ))
        self.assertEqual([(0, 1), (0,)], list(readings.in_order()))

    def test_each_free_choice_is_in_some_and_not_in_others(self):
        for _, readings, left in all_left():
            for k in readings.free():
                self.assertEqual({True, False}, {k in reading for reading in left})


class Nodes(ReadingCase):
    def test_nodes_by_a_search(self):
        for plain, readings, left in all_left():
            last = (len(plain.old) + 1, len(plain.new) + 1)
            rows = [[(0, 0), *plain.diff_of(reading), last] for reading in left]
            nodes = sorted({node for row in rows for node in row})
            pairs = {pair for row in rows for pair in zip(row, row[1:])}
            self.assertEqual(nodes, readings.nodes())
            for node in nodes:
                self.assertEqual(sorted(k for n, k in pairs if n == node), readings.following(node=node))
                self.assertEqual(sorted(k for k, n in pairs if n == node), readings.leading(node=node))

    def test_places_and_steps_by_a_search(self):
        for plain, readings, left in all_left():
            diffs = [plain.diff_of(reading) for reading in left]
            ways = [way for way in plain.ways if diff_of_way(way) in diffs]
            self.assertEqual(sorted({place for way in ways for place in way}), readings.places())
            steps = {step for way in ways for step in zip(way, way[1:])}
            for place in readings.places():
                expected = [(place, other) for other in plain.onward[place] if (place, other) in steps]
                self.assertEqual(expected, readings.steps(place=place))
                self.assertIs(list, type(readings.steps(place)))
            for place in plain.onward:
                if all(place not in way for way in ways):
                    self.refused(InvalidPlace, place, readings.steps, place)

    def test_ways_that_are_not_least_have_no_part(self):
        readings = Readings(["a"], ["a"], Costs())
        self.assertEqual([(0, 0), (1, 1)], readings.places())
        self.assertEqual(3, len(all_ways(["a"], ["a"])))

    def test_places_refused(self):
        readings = Readings(XYXY, XY, Costs()).settled(0, True)
        wrong = odd_values() + [
            (0,), (0, 0, 0), [0, 0], (False, 0), (0, False), (True, 1), (1, True), (-1, 0), (9, 9), (Liar(), 0),
            (0, Liar()), (Grudge(), Grudge()), (Liar(), Liar()), "00", (0, None),
        ]
        for value in wrong + [(1, 0), (3, 1), (4, 1), (2, 1), (4, 3), (5, 2), (0, 1)]:
            self.refused(InvalidPlace, value, readings.following, value)
            self.refused(InvalidPlace, value, readings.leading, value)
        for value in wrong + [(1, 0), (2, 0), (0, 1), (5, 3), (4, 1)]:
            self.refused(InvalidPlace, value, readings.steps, value)


class LongTexts(ReadingCase):
    def test_more_readings_than_can_be_gathered(self):
        readings = Readings(*LONG, Costs())
        many = 118264581564861424
        self.assertEqual((900, many), (len(readings.free()), readings.count()))
        told = list(islice(readings.in_order(), 5))
        first = tuple((k, k) for k in range(1, 30))
        self.assertEqual([(*first, (30 + k, 30)) for k in range(5)], [readings.diff_of(reading) for reading in told])
        self.assertEqual(told, [readings.nth(k) for k in range(5)])
        self.assertEqual((readings.last(), readings.first()), (told[0], readings.nth(many - 1)))
        self.assertEqual(many - 1, readings.position(()))
        self.assertEqual(tuple((k + 30, k) for k in range(1, 31)), readings.diff_of(()))
        for number in (many // 2, many // 3, 10 ** 12 + 7):
            reading = readings.nth(number)
            self.assertEqual(number, readings.position(reading))
            self.assertEqual(reading, readings.reading_of(readings.diff_of(reading)))
        self.refused(InvalidCount, many, readings.nth, many)

    def test_a_path_through_all_choices(self):
        readings = Readings(*LONG, Costs())
        path = readings.path(readings.first(), readings.last())
        self.assertEqual((901, path[::-1][0]), (len(path), readings.last()))
        self.assertEqual([1] * 900, [len(set(two) - set(one)) for one, two in zip(path, path[1:])])
        self.assertEqual(901, len(readings.path(readings.last(), readings.first())))

    def test_settled(self):
        for old, new in (LONG, MIXED):
            readings = Readings(old, new, Costs())
            free = readings.free()
            left = readings.settled(free[len(free) // 2], True)
            choice = left.free()[len(left.free()) // 3]
            left = left.settled(choice, False)
            other = readings.settled_as((choice, False), (free[len(free) // 2], True))
            self.assertEqual((left, repr(left)), (other, repr(other)))
            self.assertEqual(len(free), len(left.free()) + len(left.held()))
            self.assertLess(left.count(), readings.count())
            for number in (0, left.count() // 2, left.count() - 1):
                reading = left.nth(number)
                self.assertTrue(reading in left and reading in readings)
                self.assertEqual(number, left.position(reading))
                self.assertGreaterEqual(readings.position(reading), number)
            parts = [readings.settled(free[0], made).count() for made in (True, False)]
            self.assertEqual(readings.count(), sum(parts))
        while left.free():
            left = left.settled(left.free()[-1], len(left.free()) % 2 == 0)
        self.assertEqual((1, left.first(), left.first()), (left.count(), left.last(), left.nth(0)))

    def test_readings_with_great_gaps_between_their_numbers(self):
        readings = Readings(*LONG, Costs())
        known, many = readings.known, readings.count()
        told = [readings.nth(many * k // 7) for k in range(7)]
        for one, other in zip(told, told[1:] + told[:1]):
            both, either = sorted({*one} & {*other}), sorted({*one} | {*other})
            self.assertEqual((tuple(both), tuple(either)), (readings.both(one, other), readings.either(one, other)))
            for choice in (8, 450, 899):
                made = sorted({*one, choice, *known.ahead(choice)})
                unmade = sorted({*one} - {choice, *known.behind(choice)})
                self.assertEqual((tuple(made), tuple(unmade)), (
                    readings.made(one, choice), readings.unmade(one, choice)
                ))
            path = readings.path(one, other)
            self.assertEqual(len({*one} ^ {*other}) + 1, len(path))
            flips = [next(iter({*told} ^ {*behind})) for told, behind in zip(path, path[1:])]
            for at, choice in enumerate(flips):
                extra = [k for k in path[at] if k not in other]
                wanted = extra or [k for k in other if k not in path[at]]
                able = [k for k in readings.flips(path[at]) if k in wanted]
                self.assertEqual(max(able) if extra else min(able), choice)

    def test_one_reading_with_many_blank_faces(self):
        readings = Readings(["a"] * 60, ["b"] * 60, Costs())
        self.assertEqual((1, [()], (), [(0, 0), (61, 61)]), (
            readings.count(), list(readings.in_order()), readings.free(), readings.nodes()
        ))
        self.assertEqual(([(61, 61)], [(0, 0)]), (readings.following((0, 0)), readings.leading((61, 61))))
        self.assertEqual(61 * 61, len(readings.places()))


if __name__ == "__main__":
    unittest.main()
