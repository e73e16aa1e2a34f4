import importlib
import inspect
import unittest

FUNCTIONS = {
    "texts": {
        "is_line": "value", "is_text": "value", "all_pairs": "old new", "common_ends": "old new",
    },
    "diffs": {
        "is_diff": "old new value", "cost_of": "old new diff costs", "blocks_of": "old new diff",
        "gone_lines": "old new diff", "come_lines": "old new diff", "kept_lines": "old new diff",
        "partner_of": "old new diff i", "turned_about": "old new diff", "turned_over": "old new diff",
        "joined_diffs": "old middle new first second",
    },
    "scripts": {
        "is_script": "value", "script_of": "old new diff", "diff_of": "entries", "texts_of": "entries",
        "is_plain": "entries", "turned_script": "entries", "applied": "old entries", "played_entries": "old entries",
    },
    "tables": {"least_cost": "old new costs"},
    "leastpapers": {
        "least_paper": "old new costs", "is_least_paper": "old new costs value",
        "beyond_least": "old new costs statement", "is_sure_statement": "old new costs statement",
        "statement_paper": "old new costs statement", "is_statement_paper": "old new costs statement value",
    },
    "counting": {"order_count": "old new diff"},
    "answers": {"is_answer": "readings value", "value_of": "readings reading answer"},
    "measures": {
        "price_of": "readings answer choice", "prices_of": "readings answer", "greatest_value": "readings answer",
        "least_value": "readings answer", "is_extreme": "readings answer number value * least=False",
    },
    "cores": {
        "core_of": "readings answer", "is_sure": "readings answer", "sure_value": "readings answer",
        "is_enough": "readings answer *choices", "parted_readings": "readings answer choice",
        "is_parted": "readings answer choice value", "fates_of": "readings answer",
        "possible_values": "readings answer",
    },
    "settling": {"looked_ahead": "settling pairs"},
    "knots": {
        "covered_by": "block", "knots_of": "base one two diff_one diff_two", "bounds_of": "knot",
        "kind_of": "knot one two",
    },
    "rows": {
        "merged": "base one two diff_one diff_two", "token_origins": "base one two diff_one diff_two",
        "line_fates": "base one two diff_one diff_two", "cost_together": "base one two diff_one diff_two costs",
        "is_row": "value", "clashes": "row", "text_of": "row", "swapped": "row", "resolved": "row *sides",
    },
    "walking": {"beginning": "merge", "steps_from": "merge state"},
    "writtenpapers": {"written_paper": "merge", "is_written_paper": "merge row value"},
    "common": {
        "numbers_of": "merge pick", "common_numbers": "merge", "common_pick": "merge", "common_rows": "merge * most=50",
    },
    "commonpapers": {"common_paper": "merge", "is_common_paper": "merge bound value"},
    "difftexts": {
        "diff_form": "old new diff", "read_diff_form": "text", "row_form": "row", "read_row_form": "text",
        "pick_form": "pick", "read_pick_form": "text", "versions_form": "versions", "read_versions_form": "text",
    },
    "books": {"tried": "book deeds * keep=False"},
    "judge": {"is_claim": "value", "is_paper": "claim value", "paper_of": "claim"},
}
CLASSES = {
    ("costs", "Costs", "going=1 coming=1 some=None"): {
        "going": "self line", "coming": "self line", "some": "self", "turned_about": "self", "plain": None,
        "__contains__": "", "__len__": "", "__eq__": "", "__repr__": "",
    },
    ("tables", "Tables", "old new costs"): {
        "total": None, "begin_table": None, "end_table": None, "onward": "self place", "slack": "self one other",
        "diff": "self", "__contains__": "", "__eq__": "", "is_begin": "old new costs value",
        "is_end": "old new costs value",
    },
    ("webs", "Web", "old new costs"): {
        "old": None, "new": None, "costs": None, "places": "self", "steps": "self place", "is_way": "self value",
        "ways": "self", "first_way": "self", "last_way": "self", "cuts": "self", "__contains__": "", "__eq__": "",
    },
    ("faces", "Faces", "web"): {
        "blank": "self", "choices": "self", "above": "self step", "below": "self step",
        "directly_ahead": "self face", "__len__": "", "__iter__": "",
    },
    ("choices", "Choices", "old new costs"): {
        "of": "web", "web": None, "face": "self choice", "begin": "self choice", "end": "self choice",
        "pairs": "self choice", "ahead": "self choice", "behind": "self choice", "above": "self step",
        "below": "self step", "is_closed": "self value", "__len__": "", "__eq__": "",
    },
    ("readings", "Readings", "old new costs"): {
        "of": "known", "old": None, "new": None, "costs": None, "known": None, "free": "self", "held": "self",
        "first": "self", "last": "self", "diff_of": "self reading", "reading_of": "self diff", "flips": "self reading",
        "made": "self reading choice", "unmade": "self reading choice", "both": "self one other",
        "either": "self one other", "path": "self one other", "settled": "self choice made",
        "settled_as": "self *pairs", "count": "self", "in_order": "self", "nth": "self number",
        "position": "self reading", "nodes": "self", "following": "self node", "leading": "self node",
        "places": "self", "steps": "self place", "__contains__": "", "__eq__": "", "__repr__": "",
    },
    ("settling", "Settling", "readings answer"): {
        "about": "readings *answers", "left": None, "answer": None, "core": "self", "is_sure": "self",
        "outcome": "self", "settle": "self choice * made=True", "undo": "self", "log": "self", "questions": "self",
        "__enter__": "", "__exit__": "", "__contains__": "", "__repr__": "",
    },
    ("mergecores", "Merge", "base one two costs"): {
        "base": None, "costs": None, "version": "self number", "readings": "self number", "count": "self",
        "row_of": "self pick", "core": "self", "is_sure": "self", "row": "self", "parted": "self choice",
        "is_parted": "self choice value", "settled": "self choice made", "held": "self", "swapped": "self",
        "__eq__": "", "__repr__": "",
    },
    ("histories", "History", "versions costs"): {
        "of": "*texts * costs", "texts": "self", "readings": "self k", "count": "self", "origins": "self pick version",
        "core": "self version line", "is_sure": "self version line", "possible": "self version line",
        "parted": "self version line choice", "blame": "self version", "settled": "self k choice made",
        "undone": "self k", "carried": "self k text", "__len__": "", "__eq__": "", "__repr__": "",
    },
    ("books", "Book", "costs=None"): {
        "put": "self name lines", "drop": "self name", "undo": "self", "rates": None, "names": "self",
        "readings": "self old new", "merge": "self base one two", "trial": "self", "__getitem__": "", "__contains__": "",
        "__len__": "", "__eq__": "",
    },
    ("desk", "Desk", "book=None"): {"book": "self", "say": "self row", "play": "self *rows"},
}
GENERATORS = {
    ("scripts", "played_entries"), ("tables", "Tables.onward"), ("webs", "Web.ways"), ("readings", "Readings.in_order"),
    ("cores", "possible_values"), ("settling", "Settling.questions"), ("histories", "History.blame"),
    ("desk", "Desk.play"),
}
STATIC_METHODS = {("tables", "Tables.is_begin"), ("tables", "Tables.is_end")}
CLASS_METHODS = {
    ("choices", "Choices.of"), ("readings", "Readings.of"), ("settling", "Settling.about"),
    ("histories", "History.of"),
}


def parameters(call):
    """The parameters of a call as a string; those behind a bare star are passed by name only."""
    told = list(inspect.signature(call).parameters.values())
    plain = [str(one) for one in told if one.kind in (one.POSITIONAL_OR_KEYWORD, one.VAR_POSITIONAL)]
    named = [str(one) for one in told if one.kind is one.KEYWORD_ONLY]
    assert len(plain) + len(named) == len(told)
    return " ".join(plain + ["*"] * bool(named) + named)


class InterfaceTest(unittest.TestCase):
    def test_functions(self):
        for file, functions in FUNCTIONS.items():
            module = importlib.import_module(f"alldiffs.{file}")
            for name, told in functions.items():
                function = getattr(module, name)
                self.assertEqual(module.__name__, function.__module__)
                self.assertEqual(told, parameters(function), name)
                self.assertIs((file, name) in GENERATORS, inspect.isgeneratorfunction(function))

    def test_classes(self):
        for (file, name, told), methods in CLASSES.items():
            module = importlib.import_module(f"alldiffs.{file}")
            made = getattr(module, name)
            self.assertEqual((module.__name__, (object,)), (made.__module__, made.__bases__))
            self.assertEqual(told, parameters(made))
            for method, names in methods.items():
                self.check_method(file, made, method, names)

    def check_method(self, file, made, method, names):
        found = vars(made)[method]
        if names is None:
            self.assertIsInstance(found, property)
        elif names:
            self.assertEqual(names, parameters(getattr(made, method)))
            at = (file, f"{made.__name__}.{method}")
            self.assertIs(at in STATIC_METHODS, isinstance(found, staticmethod))
            self.assertIs(at in CLASS_METHODS, isinstance(found, classmethod))
            self.assertIs(at in GENERATORS, inspect.isgeneratorfunction(getattr(made, method)))


if __name__ == "__main__":
    unittest.main()
