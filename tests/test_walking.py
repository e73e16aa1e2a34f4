import unittest

from alldiffs.costs import Costs
from alldiffs.errors import InvalidState
from alldiffs.mergecores import Merge
from alldiffs.walking import beginning, steps_from
from tests.merges import PlainMerge, settled_merges, some_merges
from tests.search import Grudge, Liar, odd_values, texts_up_to
from tests.test_mergecores import ABA, MergeCase

BEGINNING = (0, (0, 0), (0, 0), None)
NO_STATES = [
    [0, (0, 0), (0, 0), None], (0, [0, 0], (0, 0), None), (0, (0, 0), [0, 0], None), (False, (0, 0), (0, 0), None),
    (0, (False, 0), (0, 0), None), (0, (0, 0), (0, False), None), (0, (0, 0), (0, 0)), (0, (0, 0), (0, 0), None, None),
    (0, (0, 0), (0, 0), False), (0, (0, 0), (0, 0), ()), (0, (0, 0), (0, 0), (0, 0, 0, False, "one")), (0, (0, 0), None, None),
    (1, (0, 0), (0, 0), None), (-1, (0, 0), (0, 0), None), (4, (4, 2), (4, 5), None), (3, (3, 1), (4, 5), None),
    (10 ** 25, (0, 0), (0, 0), None), (Liar(), (0, 0), (0, 0), None), (0, Liar(), (0, 0), None), (0, (0, 0), (0, Liar()), None),
    (0, (0, 0), (0, 0), Liar()), (Grudge(), (0, 0), (0, 0), None), (0, (0, 0), Grudge(), None), (0, (0, 0), (0, 0), Grudge()),
    (1, ((0, 0), (3, 1)), (1, 1), (0, 0, 0, 0, "one")), (1, ((0, 0), (3, 1)), (1, 1), (0, 0, 0, False, "two")),
    (1, ((0, 0), (3, 1)), (1, 1), (0, 0, 0, False, Liar())), (1, ((0, 0), (3, 1)), (1, 1), (0, 0, 0, False)),
    (1, ((0, 0), (3, 1)), (1, 1), [0, 0, 0, False, "one"]), (1, ((0, 0), (3, 1)), (1, 1), (0, False, 0, False, "one")),
    (1, ((0, 0), [3, 1]), (1, 1), (0, 0, 0, False, "one")), (1, [(0, 0), (3, 1)], (1, 1), (0, 0, 0, False, "one")),
    (1, ((0, 0), (3, True)), (1, 1), (0, 0, 0, False, "one")), (True, ((0, 0), (3, 1)), (1, 1), (0, 0, 0, False, "one")),
    (1, ((0, 0), (3, 1)), (1, 1), None), (1, (1, 1), (1, 1), (0, 0, 0, False, "one")), (1, ((0, 0), (3, 1), ()), (1, 1), None),
    (1, ((0, 0), (3, 1)), (1, 1), (0, 0, 0, None, "one")), (1, ((0, 0), (3, 1)), (1, 1), (0, 0, 0, False, None)),
]


def shapes_of(plain):
    """The tuples (came, shape) of all knots that states of a merge tell."""
    return {state[3][3:] for state in plain.steps() if state[3] is not None}


class Walking(MergeCase):
    def setUp(self):
        self.merge = Merge(*ABA, Costs())

    def test_the_beginning(self):
        self.assertEqual(BEGINNING, beginning(self.merge))
        self.assertEqual(BEGINNING, beginning(merge=Merge([], [], [], Costs())))

    def test_the_merge_of_the_document(self):
        merge = self.merge
        kept, gone = (1, (1, 1), (1, 1), None), (1, ((0, 0), (3, 1)), (1, 1), (0, 0, 0, False, "one"))
        self.assertEqual([(("a",), kept), ((), gone)], steps_from(merge, BEGINNING))
        behind = (2, ((1, 1), (4, 2)), (2, 3), (1, 1, 2, False, "one"))
        self.assertEqual([(("c",), behind)], steps_from(state=kept, merge=merge))
        self.assertEqual([((), (3, ((1, 1), (4, 2)), (3, 4), (1, 1, 2, False, "one")))], steps_from(merge, behind))
        knot = (2, ((0, 0), (3, 1)), (2, 3), (0, 0, 0, True, "mixed"))
        self.assertEqual([((), knot)], steps_from(merge, gone))
        clash = ("clash", 0, 2, (), ("a", "c", "b"))
        self.assertEqual([((clash, "a"), (3, (3, 1), (3, 4), None))], steps_from(merge, knot))
        self.assertEqual([((), None)], steps_from(merge, (3, (3, 1), (3, 4), None)))

    def test_by_going_along_every_pick(self):
        shapes = set()
        for plain in settled_merges():
            self.check_steps(plain)
            shapes |= shapes_of(plain)
        self.assertEqual({(came, shape) for came in (True, False) for shape in ("one", "two", "alike", "mixed")}, shapes)

    def test_steps_of_few_letters(self):
        texts = texts_up_to(3, "ab") + [list("aabb"), list("abab"), list("acbc"), list("ccab")]
        for base in texts[::2]:
            for at, one in enumerate(texts[::3]):
                for two in texts[at % 5::5]:
                    self.check_steps(PlainMerge(base, one, two))

    def check_steps(self, plain):
        merge, steps = plain.merge(), plain.steps()
        for state, told in steps.items():
            self.assertEqual([told[chosen] for chosen in sorted(told)], steps_from(merge, state), (plain.texts, state))
        found, waiting = set(), [beginning(merge)]
        while waiting:
            state = waiting.pop()
            if state not in found:
                found.add(state)
                waiting += [behind for _, behind in steps_from(merge, state) if behind is not None]
        self.assertEqual(set(steps), found)

    def test_rows_of_steps_are_the_picks(self):
        for plain in list(settled_merges())[::2]:
            merge, rows = plain.merge(), []
            waiting = [(beginning(merge), ())]
            while waiting:
                state, tokens = waiting.pop()
                if state is None:
                    rows.append(tokens)
                else:
                    waiting += [(behind, tokens + more) for more, behind in steps_from(merge, state)]
            self.assertEqual(sorted(map(repr, plain.rows.values())), sorted(map(repr, rows)))

    def test_kinds_of_blocks_and_knots(self):
        # Both drop line 1: a knot of two alike blocks in which nothing comes; it ends ahead of gap 1.
        merge = Merge(["a", "b"], ["b"], ["b"], Costs())
        state = (1, ((0, 0), (2, 1)), ((0, 0), (2, 1)), (0, 0, 0, False, "alike"))
        self.assertEqual([((), state)], steps_from(merge, BEGINNING))
        self.assertEqual([(("b",), (2, (2, 1), (2, 1), None))], steps_from(merge, state))
        # Unlike blocks that begin together.
        merge = Merge(["a", "b", "c"], ["c"], ["b", "c"], Costs())
        self.assertEqual((0, 0, 0, False, "mixed"), steps_from(merge, BEGINNING)[0][1][3])
        # One replaces line 1, two puts a line behind it: the gap is covered by both.
        merge = Merge(["a", "b"], ["x", "b"], ["a", "y", "b"], Costs())
        state = (1, ((0, 0), (2, 2)), (1, 1), (0, 0, 0, True, "one"))
        self.assertEqual([((), state)], steps_from(merge, BEGINNING))
        clash = ("clash", 0, 1, ("x",), ("a", "y"))
        self.assertEqual([((clash, "b"), (2, (2, 2), (2, 3), None))], steps_from(merge, state))
        # What comes at a gap in a knot of its own stands ahead of the one that begins with the next line.
        merge = Merge(["a", "b"], ["a"], ["a", "y", "b"], Costs())
        state = (2, ((1, 1), (3, 2)), (2, 3), (1, 1, 2, False, "one"))
        self.assertEqual([(("y",), state)], steps_from(merge, (1, (1, 1), (1, 1), None)))
        self.assertEqual([((), None)], steps_from(merge, state))
        # A knot that covers the line behind the gap goes on; alike lines of both are written once, at its end.
        merge = Merge(["a", "b"], ["x", "y"], ["x", "y"], Costs())
        states = [(gap, ((0, 0), (3, 3)), ((0, 0), (3, 3)), (0, 0, 0, True, "alike")) for gap in (1, 2)]
        self.assertEqual([((), states[0])], steps_from(merge, BEGINNING))
        self.assertEqual([((), states[1])], steps_from(merge, states[0]))
        self.assertEqual([(("x", "y"), None)], steps_from(merge, states[1]))

    def test_the_order_of_the_steps(self):
        merge = Merge(["a", "a"], ["a"], ["a"], Costs())
        told = [behind[1:3] for _, behind in steps_from(merge, BEGINNING)]
        gone = ((0, 0), (2, 1))
        self.assertEqual([((1, 1), (1, 1)), ((1, 1), gone), (gone, (1, 1)), (gone, gone)], told)

    def test_texts_without_lines(self):
        self.assertEqual([((), None)], steps_from(Merge([], [], [], Costs()), BEGINNING))
        self.assertEqual([(("x",), None)], steps_from(Merge([], ["x"], [], Costs()), BEGINNING))
        self.assertEqual([((("clash", 0, 0, ("x",), ("y",)),), None)], steps_from(Merge([], ["x"], ["y"], Costs()), BEGINNING))

    def test_states_refused(self):
        for value in NO_STATES + odd_values():
            self.refused(InvalidState, value, steps_from, self.merge, value)
        left = self.merge.settled((1, 0), True)
        gone = (1, ((0, 0), (3, 1)), (1, 1), (0, 0, 0, False, "one"))
        self.assertEqual(1, len(steps_from(self.merge, gone)))
        self.refused(InvalidState, gone, steps_from, left, gone)
        self.assertEqual([(("a",), (1, (1, 1), (1, 1), None))], steps_from(left, BEGINNING))

    def test_states_of_before_a_choice_was_settled(self):
        for plain in settled_merges():
            if plain.settled and plain.costs == Costs():
                merge, steps = plain.merge(), plain.steps()
                for state in PlainMerge(*plain.texts).steps():
                    if state not in steps:
                        self.refused(InvalidState, state, steps_from, merge, state)

    def test_lists_are_new(self):
        steps_from(self.merge, BEGINNING).clear()
        self.assertEqual(2, len(steps_from(self.merge, BEGINNING)))

    def test_with_versions_exchanged(self):
        words = {"one": "two", "two": "one"}
        for plain in list(some_merges())[::3]:
            merge, turned = plain.merge(), plain.merge().swapped()
            for state, told in plain.steps().items():
                gap, one, two, knot = state
                if knot is not None:
                    a, first, second, came, shape = knot
                    knot = (a, second, first, came, words.get(shape, shape))
                self.assertEqual(len(told), len(steps_from(turned, (gap, two, one, knot))))
            self.assertEqual(merge.core(), turned.swapped().core())


if __name__ == "__main__":
    unittest.main()
