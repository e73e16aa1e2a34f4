import unittest

from alldiffs.costs import Costs
from alldiffs.errors import InvalidFace, InvalidStep
from alldiffs.faces import Faces
from alldiffs.webs import Web
from tests.search import Grudge, Liar, odd_values
from tests.test_webs import NO_PLACES, NO_STEPS, all_short_webs

UPPER, LOWER = ((0, 0), (1, 0), (2, 0), (3, 1)), ((0, 0), (1, 1), (2, 1), (3, 1))
FACE = (UPPER, LOWER)
NO_FACES = [
    (LOWER, UPPER), [UPPER, LOWER], (list(UPPER), LOWER), (UPPER, list(LOWER)), (UPPER,), (UPPER, LOWER, LOWER),
    (UPPER[:-1], LOWER), (UPPER, LOWER[1:]), (UPPER, UPPER), (LOWER, LOWER), ((), ()), (UPPER, ()), ((), LOWER),
    (((False, 0), *UPPER[1:]), LOWER), ((*UPPER[:3], (3, True)), LOWER), (UPPER, ((0, False), *LOWER[1:])),
    (UPPER, ((0, 0), (True, 1), (2, 1), (3, 1))), (UPPER, ((0, 0), (1, True), (2, 1), (3, 1))),
    (UPPER, (*LOWER[:3], None)), (UPPER, (*LOWER[:3], [3, 1])), (UPPER, None), (None, LOWER), (UPPER, Liar()),
    (Liar(), LOWER), (UPPER, Grudge()), (Grudge(), LOWER), ((*UPPER[:3], Liar()), LOWER),
    (UPPER, (*LOWER[:3], Grudge())),
    ((0, 0), (1, 0)), (0, 0), (((0, 0), (1, 0), (1, 1)), ((0, 0), (0, 1), (1, 1))), (UPPER, (*LOWER, (4, 1))),
]


def side_behind(web, step, which):
    """A step and the places behind it to the end of the texts, by the last or the first step of each place."""
    side = list(step)
    while web.steps(side[-1]):
        side.append(web.steps(side[-1])[which][1])
    return side


def faces_by_the_words(web):
    """All faces of a web, sorted, as the document tells them."""
    found = []
    for place in web.places():
        steps = web.steps(place)
        for first, second in zip(steps, steps[1:]):
            upper, lower = side_behind(web, first, -1), side_behind(web, second, 0)
            end = next(spot for spot in upper[1:] if spot in lower)
            found.append((tuple(upper[:upper.index(end) + 1]), tuple(lower[:lower.index(end) + 1])))
    return sorted(found, key=lambda face: (face[0][0], face[0][-1], face[0]))


def steps_of(side):
    return list(zip(side, side[1:]))


def has_pair(side):
    return any(two == (one[0] + 1, one[1] + 1) for one, two in steps_of(side))


class FacesTest(unittest.TestCase):
    def setUp(self):
        self.web = Web(["a", "b", "a"], ["a"], Costs())
        self.faces = Faces(self.web)

    def test_a_small_one(self):
        self.assertEqual((1, [FACE], [], [FACE]), (
            len(self.faces), list(self.faces), self.faces.blank(), self.faces.choices()
        ))
        self.assertEqual((None, FACE), (self.faces.above(((0, 0), (1, 0))), self.faces.below(((0, 0), (1, 0)))))
        step = ((2, 1), (3, 1))
        self.assertEqual((FACE, None), (self.faces.above(step=step), self.faces.below(step=step)))
        self.assertEqual([], self.faces.directly_ahead(face=FACE))

    def test_no_faces(self):
        for old, new in (([], []), (["a"], []), (["a"], ["a"]), (["a", "b", "c"], ["a", "c"])):
            faces = Faces(web=Web(old, new, Costs()))
            self.assertEqual((0, [], [], []), (len(faces), list(faces), faces.blank(), faces.choices()))
            self.assertRaises(InvalidFace, faces.directly_ahead, FACE)

    def test_blank_ones(self):
        web = Web(["a"], ["b"], Costs())
        face = (((0, 0), (1, 0), (1, 1)), ((0, 0), (0, 1), (1, 1)))
        faces = Faces(web)
        self.assertEqual(([face], [face], []), (list(faces), faces.blank(), faces.choices()))
        self.assertEqual(face, faces.below(((0, 0), (1, 0))))
        self.assertEqual(face, faces.above(((0, 1), (1, 1))))

    def test_a_choice_with_three_places_on_each_side(self):
        web = Web(["a", "a"], ["a"], Costs())
        face = (((0, 0), (1, 0), (2, 1)), ((0, 0), (1, 1), (2, 1)))
        self.assertEqual(([], [face]), (Faces(web).blank(), Faces(web).choices()))
        web = Web(["a"], ["a", "a"], Costs())
        face = (((0, 0), (1, 1), (1, 2)), ((0, 0), (0, 1), (1, 2)))
        self.assertEqual(([], [face]), (Faces(web).blank(), Faces(web).choices()))

    def test_two_choices_in_a_row(self):
        faces = Faces(Web(["x", "y", "x", "y"], ["x", "y"], Costs()))
        first, second = faces.choices()
        self.assertEqual(((0, 0), (3, 1)), (first[0][0], first[0][-1]))
        self.assertEqual(((1, 1), (4, 2)), (second[0][0], second[0][-1]))
        self.assertEqual([[], [first]], [faces.directly_ahead(first), faces.directly_ahead(second)])
        self.assertEqual(first, faces.above(((0, 0), (1, 1))))

    def test_two_faces_of_one_begin(self):
        web = Web(list("apaq"), list("aqap"), Costs())
        faces = Faces(web)
        begun = [face for face in faces if face[0][0] == (0, 0)]
        self.assertEqual(2, len(begun))
        self.assertEqual(faces_by_the_words(web), list(faces))
        self.assertEqual(faces.below(((0, 0), (1, 1))), faces.above(((0, 0), (0, 1))))
        self.assertEqual(faces.below(((0, 0), (1, 0))), faces.above(((0, 0), (1, 1))))
        self.assertEqual(set(begun), {faces.below(((0, 0), (1, 0))), faces.below(((0, 0), (1, 1)))})

    def test_sorted_by_the_end_behind_the_begin(self):
        for old, new in (("bba", "babb"), ("babb", "bbaa"), ("cbbc", "cbacbba")):
            web = Web(list(old), list(new), Costs())
            self.assertEqual(faces_by_the_words(web), list(Faces(web)))
            told = [(face[0][0], face[0][-1]) for face in Faces(web)]
            self.assertEqual(sorted(told), told)
            # In each of these, two faces of one begin would stand otherwise without their ends.
            self.assertNotEqual(sorted(Faces(web), key=lambda face: (face[0][0], face[0])), list(Faces(web)))

    def test_all_by_the_words(self):
        for web, _, _, _ in all_short_webs():
            faces = Faces(web)
            told = faces_by_the_words(web)
            self.assertEqual(told, list(faces))
            steps = [step for place in web.places() for step in web.steps(place)]
            self.assertEqual(len(steps) - len(web.places()) + 1, len(faces))
            self.check_kinds(faces, told)
            self.check_sides(faces, told, steps)
            self.check_ahead(faces, told)

    def check_kinds(self, faces, told):
        blank = [
            (upper, lower) for upper, lower in told
            if len(upper) == 3 and len(lower) == 3 and not has_pair(upper) and not has_pair(lower)
        ]
        self.assertEqual(blank, faces.blank())
        self.assertEqual([face for face in told if face not in blank], faces.choices())
        for upper, lower in faces.choices():
            self.assertTrue(has_pair(upper) and has_pair(lower))

    def check_sides(self, faces, told, steps):
        for step in steps:
            above = [face for face in told if step in steps_of(face[1])]
            below = [face for face in told if step in steps_of(face[0])]
            self.assertEqual((above or [None]), [faces.above(step)])
            self.assertEqual((below or [None]), [faces.below(step)])
        for upper, lower in told:
            self.assertEqual((upper[0], upper[-1]), (lower[0], lower[-1]))
            self.assertFalse(set(upper[1:-1]) & set(lower[1:-1]))

    def check_ahead(self, faces, told):
        for face in told:
            ahead = [other for other in told if set(steps_of(other[1])) & set(steps_of(face[0]))]
            self.assertEqual(ahead, faces.directly_ahead(face))
            self.assertNotIn(face, ahead)

    def test_some_face_has_several_directly_ahead(self):
        many = [
            len(faces.directly_ahead(face)) for web, _, _, _ in all_short_webs() for faces in (Faces(web),)
            for face in faces
        ]
        self.assertEqual({0, 1, 2}, set(many) & {0, 1, 2})
        faces = Faces(Web(["a"] * 6, ["a"] * 3, Costs()))
        self.assertEqual(faces_by_the_words(Web(["a"] * 6, ["a"] * 3, Costs())), list(faces))
        self.check_ahead(faces, list(faces))

    def test_steps_refused(self):
        for value in NO_STEPS + NO_PLACES + odd_values() + [(0, 0), (1, 1), FACE, UPPER]:
            for call in (self.faces.above, self.faces.below):
                with self.assertRaises(InvalidStep) as caught:
                    call(value)
                self.assertIs(value, caught.exception.value)

    def test_faces_refused(self):
        for value in NO_FACES + NO_STEPS + NO_PLACES + odd_values():
            with self.assertRaises(InvalidFace) as caught:
                self.faces.directly_ahead(value)
            self.assertIs(value, caught.exception.value)

    def test_what_is_told_is_new(self):
        faces = Faces(Web(["x", "y", "x", "y"], ["x", "y"], Costs()))
        second = faces.choices()[1]
        for _ in range(2):
            for told, many in (
                (faces.blank(), 0), (faces.choices(), 2), (faces.directly_ahead(second), 1), (list(faces), 2),
            ):
                self.assertEqual((list, many), (type(told), len(told)))
                told.append("more")
        self.assertEqual(2, len(faces))
        self.assertEqual([2, 2], [len(list(zip(faces, faces))), sum(1 for _ in faces)])

    def test_two_loops_beside_one_another(self):
        faces = Faces(Web(["x", "y", "x", "y"], ["x", "y"], Costs()))
        self.assertEqual(4, len([(one, other) for one in faces for other in faces]))

    def test_long_texts(self):
        web = Web(["a"] * 60, ["b"] * 60, Costs())
        faces = Faces(web)
        self.assertEqual((3600, 3600, 0), (len(faces), len(faces.blank()), len(faces.choices())))
        face = (((1, 1), (2, 1), (2, 2)), ((1, 1), (1, 2), (2, 2)))
        ahead = [
            (((1, 0), (2, 0), (2, 1)), ((1, 0), (1, 1), (2, 1))), (((2, 1), (3, 1), (3, 2)), ((2, 1), (2, 2), (3, 2))),
        ]
        self.assertEqual(ahead, faces.directly_ahead(face))
        faces = Faces(Web(["a"] * 60, ["a"] * 30, Costs()))
        self.assertEqual((900, 0, 900), (len(faces), len(faces.blank()), len(faces.choices())))


if __name__ == "__main__":
    unittest.main()
