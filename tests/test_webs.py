import unittest
from itertools import islice

from alldiffs.costs import Costs
from alldiffs.errors import InvalidCosts, InvalidPlace, InvalidText
from alldiffs.webs import Web
from tests.search import Grudge, Liar, all_ways, diff_of_way, least_ways, odd_values, texts_up_to

GOING, COMING = {"a": 2, "b": 5}, {"a": 3, "b": 1}
OWN = Costs(1, 1, {"a": (2, 3), "b": (5, 1)})
OLD, NEW = ["a", "b", "a"], ["a"]
NO_PLACES = [
    (0, 1), (3, 0), (-1, 0), (4, 1), (3, 2), [0, 0], (0,), (0, 0, 0), (False, 0), (0, False), (True, 0), (1, True),
    (0, None), ("0", 0), "00", None, 0, (), {}, ((0, 0), (0, 0)), (Liar(), Liar()), (0, Liar()),
    (Grudge(), 0), (0, Grudge()), ([], []), ({}, 0),
]
NO_STEPS = [
    ((0, 0), (0, 1)), ((0, 0), (0, 0)), ((1, 0), (0, 0)), ((0, 0), (2, 0)), ((0, 0), (3, 1)), ((1, 0), (1, 1)),
    ((1, 0), (2, 1)), [(0, 0), (1, 0)], ([0, 0], (1, 0)), ((0, 0), [1, 0]), ((False, 0), (1, 0)), ((0, 0), (True, 0)),
    ((0, False), (1, 0)), ((0, 0), (1, False)), ((0, 0),), ((0, 0), (1, 0), (2, 0)), ((0, 0), None), (None, (1, 0)),
    ((0, 0), Liar()), (Liar(), (1, 0)), ((0, 0), Grudge()), (Grudge(), (1, 0)), ((3, 1), (4, 1)), ((9, 9), (9, 9)),
]


def all_short_webs():
    """(web, all its ways by a search, old, new) for short texts."""
    for costs, going, coming in ((Costs(), {}, {}), (OWN, GOING, COMING)):
        for old in texts_up_to(3, "ab"):
            for new in texts_up_to(3, "ab"):
                yield Web(old, new, costs), least_ways(old, new, going, coming), old, new
    for old, new in (("xyxy", "xy"), ("aabba", "aba"), ("abcab", "cabca"), ("aaaa", "aa"), ("ab", "cd"),
                     ("abab", "baba"), ("apaq", "aqap"), ("bba", "babb"), ("babb", "bbaa")):
        yield Web(list(old), list(new), Costs()), least_ways(list(old), list(new), {}, {}), list(old), list(new)


class WebTest(unittest.TestCase):
    def setUp(self):
        self.web = Web(OLD, NEW, Costs())

    def test_a_small_one(self):
        self.assertEqual([(0, 0), (1, 0), (1, 1), (2, 0), (2, 1), (3, 1)], self.web.places())
        self.assertEqual([((0, 0), (1, 0)), ((0, 0), (1, 1))], self.web.steps((0, 0)))
        self.assertEqual([((2, 0), (3, 1))], self.web.steps(place=(2, 0)))
        self.assertEqual([], self.web.steps((3, 1)))
        first, last = ((0, 0), (1, 0), (2, 0), (3, 1)), ((0, 0), (1, 1), (2, 1), (3, 1))
        self.assertEqual([first, last], list(self.web.ways()))
        self.assertEqual((first, last), (self.web.first_way(), self.web.last_way()))
        self.assertEqual([(0, 0), (3, 1)], self.web.cuts())

    def test_three_steps_in_the_sequence_go_pair_come(self):
        web = Web(list("apaq"), list("aqap"), Costs())
        self.assertEqual([((0, 0), (1, 0)), ((0, 0), (1, 1)), ((0, 0), (0, 1))], web.steps((0, 0)))
        found = [web.steps(place) for web, _, _, _ in all_short_webs() for place in web.places()]
        for steps in found:
            kinds = [(two[0] - one[0], two[1] - one[1]) for one, two in steps]
            self.assertEqual([kind for kind in ((1, 0), (1, 1), (0, 1)) if kind in kinds], kinds)

    def test_texts_without_lines(self):
        web = Web([], (), Costs())
        self.assertEqual(([(0, 0)], [], [((0, 0),)], [(0, 0)]), (
            web.places(), web.steps((0, 0)), list(web.ways()), web.cuts()
        ))
        self.assertEqual((((0, 0),), ((0, 0),)), (web.first_way(), web.last_way()))
        self.assertEqual([True, False, False], [web.is_way(way) for way in (((0, 0),), (), ((0, 0), (0, 0)))])
        web = Web(["a", "b"], [], Costs())
        self.assertEqual([((0, 0), (1, 0), (2, 0))], list(web.ways()))
        self.assertEqual([(0, 0), (1, 0), (2, 0)], web.cuts())
        web = Web([], ["a"], Costs())
        self.assertEqual(((0, 0), (0, 1)), web.last_way())

    def test_all_by_a_search(self):
        for web, ways, old, new in all_short_webs():
            self.assertEqual(ways, list(web.ways()))
            self.assertEqual((ways[0], ways[-1]), (web.first_way(), web.last_way()))
            places = sorted({place for way in ways for place in way})
            steps = {step for way in ways for step in zip(way, way[1:])}
            self.assertEqual(places, web.places())
            self.assertEqual(steps, {step for place in places for step in web.steps(place)})
            self.assertEqual([place for place in places if all(place in way for way in ways)], web.cuts())
            for way in all_ways(old, new):
                self.assertIs(way in ways, web.is_way(way))
            for i in range(-1, len(old) + 2):
                for j in range(-1, len(new) + 2):
                    self.assertIs((i, j) in places, (i, j) in web)
                    for k in range(-1, len(old) + 2):
                        for n in range(-1, len(new) + 2):
                            self.assertIs(((i, j), (k, n)) in steps, ((i, j), (k, n)) in web)

    def test_places_refused(self):
        for value in NO_PLACES + odd_values() + [((0, 0), (1, 0))]:
            with self.assertRaises(InvalidPlace) as caught:
                self.web.steps(value)
            self.assertIs(value, caught.exception.value)

    def test_in_for_any_value(self):
        for place in self.web.places():
            self.assertIs(True, place in self.web)
            for step in self.web.steps(place):
                self.assertIs(True, step in self.web)
        self.assertIs(True, ((0, 0), (1, 0)) in self.web)
        for value in NO_STEPS + odd_values() + NO_PLACES:
            self.assertIs(False, value in self.web)

    def test_is_way_for_any_value(self):
        first, last = ((0, 0), (1, 0), (2, 0), (3, 1)), ((0, 0), (1, 1), (2, 1), (3, 1))
        self.assertEqual([True, True], [self.web.is_way(first), self.web.is_way(value=last)])
        for value in odd_values() + NO_PLACES + NO_STEPS + [
            list(first), first[:-1], first[1:], (), (first,), ((0, 0), (3, 1)), ((0, 0), [1, 0], (2, 0), (3, 1)),
            ((0, 0), (True, 0), (2, 0), (3, 1)), ((False, 0), (1, 0), (2, 0), (3, 1)),
            ((0, 0), (1, 0), (2, 0), (3, True)),
            (*first, (3, 1)), ((0, 0), *first), ((0, 0), (1, 0), (2, 1), (3, 1)), first + last,
            ((0, 0), (0, 1), (1, 1), (2, 1), (3, 1)), ((0, 0), (1, 0), (2, 0), (3, 0), (3, 1)), (*first[:3], None),
            ((0, 0), (1, 0), Liar(), (3, 1)), ((0, 0), (1, 0), Grudge(), (3, 1)), (*first, (4, 1)),
            ((1, 0), (2, 0), (3, 1)), ((0, 0), (1, 0), (2, 0)), ((0, 0), (1, 0), (3, 1)),
        ]:
            self.assertIs(False, self.web.is_way(value))

    def test_more_ways_than_can_be_gathered(self):
        web = Web(["a"] * 60, ["b"] * 60, Costs())
        told = list(islice(web.ways(), 4))
        self.assertEqual(web.first_way(), told[0])
        self.assertEqual(tuple((i, 0) for i in range(61)) + tuple((60, j) for j in range(1, 61)), told[0])
        for way, many in zip(told[1:], (1, 2, 3)):
            head = tuple((i, 0) for i in range(60)) + tuple((59, j) for j in range(1, many + 1))
            self.assertEqual(head + tuple((60, j) for j in range(many, 61)), way)
        self.assertEqual(tuple((0, j) for j in range(61)) + tuple((i, 60) for i in range(1, 61)), web.last_way())
        self.assertEqual(61 * 61, len(web.places()))
        self.assertEqual([(0, 0), (60, 60)], web.cuts())
        web = Web(["a"] * 60, ["a"] * 30, Costs())
        self.assertEqual(3, len({diff_of_way(way) for way in islice(web.ways(), 3)}))

    def test_ways_beside_one_another(self):
        one, other = self.web.ways(), self.web.ways()
        told = [next(one), next(other), next(other), next(one)]
        ways = list(self.web.ways())
        self.assertEqual([ways[0], ways[0], ways[1], ways[1]], told)
        self.assertEqual([None, None], [next(one, None), next(other, None)])

    def test_what_is_told_is_new(self):
        for _ in range(2):
            for told in (self.web.old, self.web.new, self.web.places(), self.web.steps((0, 0)), self.web.cuts()):
                told.append("more")
                told.reverse()
        self.assertEqual((OLD, NEW), (self.web.old, self.web.new))
        self.test_a_small_one()

    def test_properties_and_later_changes(self):
        old, new, costs = ("a", "b"), ["b"], Costs(2, 3)
        web = Web(old, new, costs)
        new.append("c")
        self.assertEqual((["a", "b"], ["b"], Costs(2, 3)), (web.old, web.new, web.costs))
        self.assertEqual((list, list, ["b", "c"]), (type(web.old), type(web.new), new))
        self.assertEqual(((0, 0), (1, 0), (2, 1)), web.first_way())
        self.assertEqual(web.first_way(), Web(costs=costs, new=["b"], old=["a", "b"]).first_way())

    def test_equal(self):
        web = Web(["a"], ["b"], OWN)
        self.assertIs(True, web == Web(("a",), ("b",), Costs(1, 1, {"b": (5, 1), "a": (2, 3)})))
        self.assertIs(False, web != Web(("a",), ("b",), OWN))
        for other in (Web(["b"], ["b"], OWN), Web(["a"], ["a"], OWN), Web(["a"], ["b"], Costs()),
                      Web(["b"], ["a"], OWN), Web(["a", "a"], ["b"], OWN), None, 1, ["a"], object()):
            self.assertIs(False, web == other)
            self.assertIs(True, web != other)

    def test_refused(self):
        for args, error, value in (
            (("o", "n", 5), InvalidText, "o"), (([], "n", 5), InvalidText, "n"), (([], [], 5), InvalidCosts, 5),
            ((["a"] * 61, [], 5), InvalidText, ["a"] * 61), (([], [], (1, 1)), InvalidCosts, (1, 1)),
            (([True], [], 5), InvalidText, [True]),
        ):
            with self.assertRaises(error) as caught:
                Web(*args)
            self.assertEqual(value, caught.exception.value)
        for value in odd_values():
            with self.assertRaises(InvalidCosts) as caught:
                Web([], [], value)
            self.assertEqual("costs", caught.exception.problem)
            self.assertIs(value, caught.exception.value)
            with self.assertRaises(InvalidText):
                Web(value, value, value)


if __name__ == "__main__":
    unittest.main()
