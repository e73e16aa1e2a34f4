import unittest

from alldiffs.choices import Choices
from alldiffs.costs import Costs
from alldiffs.errors import InvalidChoice, InvalidCosts, InvalidStep, InvalidText
from alldiffs.faces import Faces
from alldiffs.webs import Web
from tests.search import Grudge, Liar, Plain, diff_of_way, odd_values, some_texts, steps_of, texts_up_to
from tests.test_webs import NO_PLACES, NO_STEPS

XYXY, XY = ["x", "y", "x", "y"], ["x", "y"]
NO_CHOICES = [-1, 2, True, False, "0", (0,), [0], None, 10 ** 25, -10 ** 25, b"0"]


def costs_of(going, coming):
    """The Costs of two dicts, 1 for what is no key."""
    lines = sorted({*(going or {}), *(coming or {})})
    return Costs(1, 1, {line: (going[line], coming[line]) for line in lines})


def all_cases():
    """(Plain, Choices) for short texts."""
    for old, new, going, coming in some_texts():
        yield Plain(old, new, going, coming), Choices(old, new, costs_of(going, coming))


class ChoicesTest(unittest.TestCase):
    def setUp(self):
        self.known = Choices(XYXY, XY, Costs())

    def test_the_example(self):
        known = self.known
        self.assertEqual([2, (0, 0), (3, 1), (((3, 1),), ((1, 1),)), (0,)], [
            len(known), known.begin(0), known.end(0), known.pairs(0), known.ahead(1)
        ])
        self.assertEqual(0, known.above(((0, 0), (1, 1))))
        self.assertEqual([(1, 1), (4, 2), (), (1,), ()], [
            known.begin(choice=1), known.end(choice=1), known.ahead(choice=0), known.behind(choice=0), known.behind(1)
        ])
        self.assertEqual((((4, 2),), ((2, 2),)), known.pairs(choice=1))

    def test_the_example_of_stage_five(self):
        face = Choices(["a", "b", "a"], ["a"], Costs()).face(choice=0)
        self.assertEqual((((0, 0), (1, 0), (2, 0), (3, 1)), ((0, 0), (1, 1), (2, 1), (3, 1))), face)

    def test_faces_by_a_search(self):
        for plain, known in all_cases():
            self.assertEqual(len(plain.choices), len(known))
            for number, face in enumerate(plain.choices):
                upper, lower = face
                self.assertEqual(face, known.face(number))
                self.assertEqual((upper[0], upper[-1]), (known.begin(number), known.end(number)))
                pairs = known.pairs(number)
                self.assertEqual((diff_of_way(upper), diff_of_way(lower)), pairs)
                self.assertTrue(pairs[0] and pairs[1])

    def test_ahead_by_a_search(self):
        for plain, known in all_cases():
            for number in range(len(known)):
                self.assertEqual(plain.choices_ahead(number), known.ahead(number))
                self.assertEqual(plain.choices_behind(number), known.behind(number))
                self.assertNotIn(number, known.ahead(number))

    def test_ahead_through_blank_faces_alone(self):
        found = 0
        for plain, known in all_cases():
            for number in range(len(known)):
                faces, waiting = set(), [plain.choices[number]]
                while waiting:
                    face = waiting.pop()
                    direct = [other for other in plain.choices if set(steps_of(other[1])) & set(steps_of(face[0]))]
                    waiting += [other for other in direct if other not in faces]
                    faces |= set(direct)
                found += len([other for other in known.ahead(number) if plain.choices[other] not in faces])
        self.assertGreaterEqual(found, 3)
        self.assertEqual([(), (0,)], [Choices(list("aaa"), list("aca"), Costs()).ahead(k) for k in (0, 1)])

    def test_none_is_ahead_across_a_cut(self):
        found = 0
        for plain, known in all_cases():
            for cut in Web(plain.old, plain.new, known.web.costs).cuts():
                ends = [k for k in range(len(known)) if known.end(k) <= cut]
                begins = [k for k in range(len(known)) if known.begin(k) >= cut]
                found += len(ends) * len(begins)
                for one in ends:
                    self.assertFalse(set(begins) & {*known.ahead(one), *known.behind(one)})
        self.assertGreater(found, 0)

    def test_above_and_below_by_a_search(self):
        for plain, known in all_cases():
            for place, others in plain.onward.items():
                for other in others:
                    step = (place, other)
                    above = [k for k, (_, lower) in enumerate(plain.choices) if step in steps_of(lower)]
                    below = [k for k, (upper, _) in enumerate(plain.choices) if step in steps_of(upper)]
                    self.assertEqual(above or [None], [known.above(step=step)])
                    self.assertEqual(below or [None], [known.below(step=step)])

    def test_none_beside_a_blank_face(self):
        known = Choices(["a"], ["b"], Costs())
        for step in (((0, 0), (1, 0)), ((1, 0), (1, 1)), ((0, 0), (0, 1)), ((0, 1), (1, 1))):
            self.assertEqual((None, None), (known.above(step), known.below(step)))
        self.assertEqual(1, len(Faces(known.web)))

    def test_choices_refused(self):
        for call in (self.known.face, self.known.begin, self.known.end, self.known.pairs, self.known.ahead,
                     self.known.behind):
            for value in NO_CHOICES + [Liar(), Grudge()] + [other for other in odd_values() if not isinstance(other, int)]:
                with self.assertRaises(InvalidChoice) as caught:
                    call(value)
                self.assertIs(value, caught.exception.value)
        none = Choices([], [], Costs())
        self.assertEqual(0, len(none))
        for call in (none.face, none.begin, none.end, none.pairs, none.ahead, none.behind):
            self.assertRaises(InvalidChoice, call, 0)

    def test_steps_refused(self):
        known = Choices(["a", "b", "a"], ["a"], Costs())
        for value in NO_STEPS + NO_PLACES + odd_values() + [(0, 0), known.face(0)]:
            for call in (known.above, known.below):
                with self.assertRaises(InvalidStep) as caught:
                    call(value)
                self.assertIs(value, caught.exception.value)

    def test_is_closed_by_a_search(self):
        for plain, known in all_cases():
            readings = plain.readings()
            numbers = range(len(known))
            found = [told for told in readings if known.is_closed(told)]
            self.assertEqual(readings, found)
            for told in readings:
                for number in numbers:
                    if number not in told:
                        more = tuple(sorted((*told, number)))
                        self.assertIs(more in readings, known.is_closed(value=more))
                    else:
                        less = tuple(other for other in told if other != number)
                        self.assertIs(less in readings, known.is_closed(value=less))

    def test_is_closed_for_any_value(self):
        self.assertEqual([True, True, True, False], [self.known.is_closed(told) for told in ((), (0,), (0, 1), (1,))])
        for value in odd_values() + [other for other in NO_CHOICES if other != (0,)] + [
            [0], [], (1, 0), (0, 0), (0, 1, 1), (0, 1, 2), (0, 2), (-1, 0), (False,), (0, True), (False, True), ("0",),
            (0, None), (0, [1]), (Liar(),), (0, Liar()), (Grudge(),), (0, Grudge()), {0: True}, {0}, (0, (1,)), ((0,),),
            range(1), (10 ** 25,),
        ]:
            self.assertIs(False, self.known.is_closed(value))

    def test_of_a_web(self):
        web = Web(XYXY, XY, Costs())
        known = Choices.of(web)
        self.assertIs(Choices, type(known))
        self.assertEqual((self.known, web, 2, (0,)), (known, known.web, len(known), known.ahead(1)))
        self.assertEqual(known, Choices.of(web=web))
        for old, new, going, coming in some_texts()[:8]:
            costs = costs_of(going, coming)
            one, other = Choices.of(Web(old, new, costs)), Choices(old, new, costs)
            self.assertEqual(other, one)
            self.assertEqual([other.face(k) for k in range(len(other))], [one.face(k) for k in range(len(one))])

    def test_web(self):
        self.assertEqual(Web(XYXY, XY, Costs()), self.known.web)
        old, new = list(XYXY), list(XY)
        known = Choices(costs=Costs(), new=new, old=old)
        old.clear()
        new.append("x")
        self.assertEqual((XYXY, XY, 2), (known.web.old, known.web.new, len(known)))
        known.web.old.append("x")
        known.web.steps((0, 0)).clear()
        self.assertEqual(self.known, known)

    def test_equal(self):
        known = Choices(["a"], ["b"], Costs(2, 1))
        self.assertIs(True, known == Choices(("a",), ("b",), Costs(2, 1)))
        self.assertIs(False, known != Choices(("a",), ("b",), Costs(2, 1)))
        for other in (Choices(["b"], ["b"], Costs(2, 1)), Choices(["a"], ["a"], Costs(2, 1)), Web(["a"], ["b"], Costs(2, 1)),
                      Choices(["a"], ["b"], Costs()), Choices([], [], Costs()), None, 0, (), object()):
            self.assertIs(False, known == other)
            self.assertIs(True, known != other)

    def test_refused(self):
        for args, error, value in (
            (("o", "n", 5), InvalidText, "o"), (([], "n", 5), InvalidText, "n"), (([], [], 5), InvalidCosts, 5),
            ((["a"] * 61, [], 5), InvalidText, ["a"] * 61), (([], [], (1, 1)), InvalidCosts, (1, 1)),
        ):
            with self.assertRaises(error) as caught:
                Choices(*args)
            self.assertEqual(value, caught.exception.value)
        for value in odd_values():
            with self.assertRaises(InvalidCosts) as caught:
                Choices([], [], value)
            self.assertEqual("costs", caught.exception.problem)
            self.assertRaises(InvalidText, Choices, value, value, value)

    def test_texts_of_a_few_letters(self):
        for old in texts_up_to(3, "ab"):
            for new in texts_up_to(3, "ab"):
                plain, known = Plain(old, new), Choices(old, new, Costs())
                self.assertEqual(plain.choices, [known.face(k) for k in range(len(known))])
                for number in range(len(known)):
                    self.assertEqual(plain.choices_ahead(number), known.ahead(number))

    def test_long_texts(self):
        known = Choices(["a"] * 60, ["a"] * 30, Costs())
        self.assertEqual(900, len(known))
        begins = [known.begin(number) for number in range(900)]
        self.assertEqual(sorted((j + d, j) for j in range(30) for d in range(30)), begins)
        for number in range(0, 900, 37):
            i, j = begins[number]
            ahead = [k for k, (i2, j2) in enumerate(begins) if j2 <= j and i2 - j2 >= i - j and k != number]
            self.assertEqual(tuple(ahead), known.ahead(number))
            behind = [k for k, (i2, j2) in enumerate(begins) if j2 >= j and i2 - j2 <= i - j and k != number]
            self.assertEqual(tuple(behind), known.behind(number))
        self.assertIs(True, known.is_closed(tuple(range(900))))
        self.assertIs(False, known.is_closed(tuple(range(1, 900))))
        known = Choices(["a"] * 60, ["b"] * 60, Costs())
        self.assertEqual((0, True, False), (len(known), known.is_closed(()), known.is_closed((0,))))


if __name__ == "__main__":
    unittest.main()
