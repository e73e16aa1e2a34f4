import unittest

from alldiffs.counting import order_count
from alldiffs.errors import InvalidDiff, InvalidText
from tests.search import Grudge, Liar, all_ways, diff_of_way, odd_values, texts_up_to


class OrderCount(unittest.TestCase):
    def test_blocks_of_all_sizes(self):
        for gone, come, many in (
            (0, 0, 1), (1, 0, 1), (0, 1, 1), (1, 1, 2), (2, 1, 3), (1, 2, 3), (2, 2, 6), (3, 2, 10), (5, 5, 252),
            (60, 0, 1), (0, 60, 1), (60, 1, 61), (60, 60, 96614908840363322603893139521372656),
        ):
            self.assertEqual(many, order_count(["a"] * gone, ["b"] * come, ()))

    def test_blocks_are_multiplied(self):
        old, new = ["a", "a", "x", "b", "y", "c"], ["p", "x", "q", "q", "y", "r"]
        self.assertEqual(3 * 3 * 2, order_count(old, new, ((3, 2), (5, 5))))
        self.assertEqual(3 * 35, order_count(new=new, old=old, diff=((3, 2),)))
        self.assertEqual(1, order_count(["a", "b"], ["a", "b"], ((1, 1), (2, 2))))

    def test_by_a_search(self):
        for old in texts_up_to(4, "ab")[::2]:
            for new in texts_up_to(4, "ab")[::3]:
                many = {}
                for way in all_ways(old, new):
                    many[diff_of_way(way)] = many.get(diff_of_way(way), 0) + 1
                for diff, number in many.items():
                    self.assertEqual(number, order_count(old, new, diff))

    def test_refused(self):
        for args, error, value in (
            (("o", "n", 5), InvalidText, "o"), (([], "n", 5), InvalidText, "n"), (([], [], 5), InvalidDiff, 5),
            ((["a"] * 61, [], ()), InvalidText, ["a"] * 61), ((["a"], ["a"], [(1, 1)]), InvalidDiff, [(1, 1)]),
            ((["a"], ["b"], ((1, 1),)), InvalidDiff, ((1, 1),)),
            ((["a"], ["a"], ((True, 1),)), InvalidDiff, ((True, 1),)),
        ):
            with self.assertRaises(error) as caught:
                order_count(*args)
            self.assertEqual(value, caught.exception.value)
        for value in odd_values() + [((1, 1), Liar()), (Grudge(), (1, 1))]:
            with self.assertRaises(InvalidDiff) as caught:
                order_count(["a"], ["a"], value)
            self.assertIs(value, caught.exception.value)


if __name__ == "__main__":
    unittest.main()
