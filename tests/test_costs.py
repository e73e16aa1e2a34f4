import unittest

from alldiffs.costs import Costs
from alldiffs.errors import InvalidCosts
from tests.search import Grudge, Liar, odd_values

NO_COSTS = [0, -1, 1000000, True, False, None, "1", b"1", [1], (1,), {}, object(), Liar(), Grudge()]


class CostsTest(unittest.TestCase):
    def refused(self, problem, value, *args, **named):
        with self.assertRaises(InvalidCosts) as caught:
            Costs(*args, **named)
        self.assertEqual(problem, caught.exception.problem)
        self.assertIs(value, caught.exception.value)

    def test_most(self):
        self.assertEqual(999999, Costs.MOST)
        self.assertEqual(999999, Costs().MOST)

    def test_costs_of_lines(self):
        costs = Costs(2, 3, {"a": (5, 7), "": (1, 999999)})
        self.assertEqual((2, 3), (costs.going("b"), costs.coming("b")))
        self.assertEqual((5, 7), (costs.going("a"), costs.coming("a")))
        self.assertEqual((1, 999999), (costs.going(""), costs.coming(line="")))
        self.assertEqual((2, 3), costs.plain)
        self.assertEqual((1, 1), Costs().plain)
        self.assertEqual((4, 1), Costs(4).plain)
        self.assertEqual((1, 4), Costs(coming=4).plain)
        self.assertEqual((7, 4), Costs(some=None, coming=4, going=7).plain)
        self.assertEqual(9, Costs(1, 2, {"a": (9, 2)}).going(line="a"))

    def test_least_and_greatest(self):
        self.assertEqual((1, 999999), Costs(1, 999999).plain)
        self.assertEqual((999999, 1), Costs(999999, 1).plain)
        self.assertEqual({"a": (999999, 1)}, Costs(1, 1, {"a": (999999, 1)}).some())

    def test_going_refused(self):
        for value in NO_COSTS:
            self.refused("going", value, value)
            self.refused("going", value, value, 0, 5)

    def test_coming_refused(self):
        for value in NO_COSTS:
            self.refused("coming", value, 1, value)
            self.refused("coming", value, coming=value, some=5)

    def test_some_refused(self):
        for value in [
            (), [], [("a", (1, 1))], "a", 0, False, True, {"a"}, Liar(), Grudge(), frozenset(), ("a", (1, 1)),
        ]:
            self.refused("some", value, 1, 1, value)
            self.refused("some", value, some=value)

    def test_lines_refused(self):
        for key in (1, True, None, "a\n", b"a", ("a",), frozenset(), Liar()):
            self.refused("line", key, 1, 1, {key: (1, 1)})
            self.refused("line", key, 1, 1, {"a": (1, 1), key: 5, "b": 0})

    def test_own_costs_refused(self):
        for own in [1, None, [1, 1], (), (1,), (1, 1, 1), "11", Liar(), Grudge(), {1: 1}]:
            self.refused("own", own, 1, 1, {"a": own})
        for wrong in NO_COSTS:
            for own in ((wrong, 1), (1, wrong)):
                self.refused("own", own, 1, 1, {"z": (1, 1), "a": own})

    def test_the_first_wrong_item_decides(self):
        own = (0, 1)
        self.refused("own", own, 1, 1, {"b": own, "a\n": (1, 1)})
        self.refused("line", "a\n", 1, 1, {"a\n": own, "b": own})
        self.refused("own", own, 1, 1, {"z": (2, 2), "y": own, "a": 5})

    def test_lines_that_are_none(self):
        costs = Costs(1, 1, {"a": (2, 2)})
        for call in (costs.going, costs.coming):
            for value in [odd for odd in odd_values() if type(odd) is not str] + ["\n", "a\n"]:
                with self.assertRaises(InvalidCosts) as caught:
                    call(value)
                self.assertEqual("line", caught.exception.problem)
                self.assertIs(value, caught.exception.value)

    def test_some(self):
        costs = Costs(2, 3, {"c": (2, 3), "b": (3, 2), "a": (2, 4), "": (1, 3)})
        self.assertEqual([("", (1, 3)), ("a", (2, 4)), ("b", (3, 2))], list(costs.some().items()))
        self.assertEqual({}, Costs().some())
        self.assertEqual({}, Costs(1, 1, {"a": (1, 1)}).some())

    def test_some_is_new(self):
        costs = Costs(1, 1, {"a": (2, 2)})
        costs.some()["b"] = (5, 5)
        self.assertEqual({"a": (2, 2)}, costs.some())
        self.assertEqual(1, costs.going("b"))

    def test_later_changes_have_no_effect(self):
        some = {"a": (2, 2)}
        costs = Costs(1, 1, some)
        some["a"] = (9, 9)
        some["b"] = (8, 8)
        self.assertEqual((2, 1), (costs.going("a"), costs.going("b")))
        self.assertEqual({"a": (9, 9), "b": (8, 8)}, some)

    def test_objects_share_no_state(self):
        Costs().some()["a"] = (2, 2)
        self.assertEqual(0, len(Costs()))

    def test_turned_about(self):
        costs = Costs(2, 3, {"a": (5, 7), "b": (3, 2), "c": (4, 4)})
        turned = costs.turned_about()
        self.assertEqual((3, 2), turned.plain)
        self.assertEqual([("a", (7, 5)), ("b", (2, 3)), ("c", (4, 4))], list(turned.some().items()))
        self.assertEqual(costs, turned.turned_about())
        self.assertNotEqual(costs, turned)
        self.assertEqual((2, 3), costs.plain)

    def test_in(self):
        costs = Costs(2, 3, {"a": (5, 7), "b": (2, 3)})
        self.assertIs(True, "a" in costs)
        self.assertIs(False, "b" in costs)
        self.assertIs(False, "c" in costs)
        for value in odd_values():
            self.assertIs(type(value) is str and value == "a", value in costs)
            self.assertIs(False, value in Costs())

    def test_len(self):
        self.assertEqual([0, 0, 1, 2], [
            len(Costs()), len(Costs(2, 2, {"a": (2, 2)})), len(Costs(2, 2, {"a": (2, 2), "b": (2, 1)})),
            len(Costs(1, 1, {"a": (2, 2), "b": (2, 1)})),
        ])

    def test_equal(self):
        self.assertEqual(Costs(), Costs(1, 1, {}))
        self.assertEqual(Costs(2, 3, {"a": (2, 3)}), Costs(2, 3))
        self.assertEqual(Costs(2, 3, {"a": (1, 1), "b": (2, 2)}), Costs(2, 3, {"b": (2, 2), "a": (1, 1)}))
        for other in (Costs(2, 3), Costs(2, 3, {"a": (4, 5)}), Costs(3, 3, {"a": (4, 4)}), Costs(2, 2, {"a": (4, 4)}),
                      Costs(2, 3, {"b": (4, 4)}), Costs(2, 3, {"a": (4, 4), "b": (4, 4)})):
            self.assertIs(False, Costs(2, 3, {"a": (4, 4)}) == other)
            self.assertIs(True, Costs(2, 3, {"a": (4, 4)}) != other)
        for value in (None, True, 1, (1, 1), {}, "Costs(1, 1, {})", object()):
            self.assertIs(False, Costs() == value)

    def test_repr(self):
        self.assertEqual("Costs(1, 1, {'a': (2, 5)})", repr(Costs(1, 1, {"a": (2, 5)})))
        self.assertEqual("Costs(1, 1, {})", repr(Costs()))
        self.assertEqual(
            "Costs(2, 3, {'a': (2, 5), 'b': (1, 1)})", repr(Costs(2, 3, {"b": (1, 1), "a": (2, 5), "c": (2, 3)}))
        )


if __name__ == "__main__":
    unittest.main()
