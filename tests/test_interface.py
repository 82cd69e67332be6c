"""The interface: what each file defines, and which methods stand in which class itself."""

import ast
import importlib
import inspect
import pathlib
import unittest

PACKAGE = pathlib.Path(__file__).resolve().parent.parent / "knotpurse"

REFUSALS = ["NoYear", "NoHead", "NoEntry", "NoDay", "NoNumber", "NoPromise", "Taken", "Full", "NoText", "NoRow"]

# For each file: each class with its arguments, its base and its methods with theirs.
CLASSES = {
    "errors": {
        "PurseError": (None, "ValueError", {}),
        "Passed": (["day", "place"], "PurseError", {}),
        "Leaned": (["numbers"], "PurseError", {}),
        **{name: (None, "PurseError", {}) for name in REFUSALS},
    },
    "years": {
        "Year": (["days", "heads", "limits", "rules"], None,
                 {"names": [], "above": ["name"], "knots": ["name"], "under": ["name"]}),
    },
    "entries": {
        name: (arguments, base, {"told": [], "fits": ["year", "date"]}) for name, arguments, base in [
            ("Entry", None, None),
            ("Give", ["head", "coins", "note"], "Entry"),
            ("Hold", ["head", "coins", "until", "note"], "Entry"),
            ("Move", ["head", "other", "coins", "note"], "Entry"),
            ("Spend", ["head", "coins", "note"], "Entry"),
            ("Promise", ["word", "head", "coins", "note"], "Entry"),
            ("Lessen", ["word", "coins", "note"], "Entry"),
            ("Out", ["word", "coins", "note"], "Entry"),
        ]
    },
}
CLASSES["dated"] = {
    "Dated": (["year", "rows"], None, {
        "breach": [], "taken": ["k", "date"], "word_left": ["word", "date"],
        **{name: ["head", "date"] for name in ["given", "moved", "spent", "promised", "held", "left"]},
    }),
}
CLASSES["books"] = {
    "Book": (["year"], None, {
        "enter": ["day", "date", "entry"], "right": ["day", "number", "date", "entry"], "back": ["day", "number"],
        "today": [], "lines": [], "live": [], "late": [], "known": ["day"], "sums": ["head", "day", "date"],
        "knot": ["head", "day", "date"], "may": ["head", "date"], "twin": [],
    }),
}
CLASSES["desk"] = {"Desk": ([], None, {"say": ["row"]})}
FUNCTIONS = {
    "entries": {"read_entry": ["told"]},
    "leanings": {"may_be_back": ["book", "number"], "needs": ["book", "number"],
                 "fills": ["book", "head", "date", "coins"]},
    "carrying": {"carried": ["book", "rules", "year"]},
    "texts": {"year_text": ["year"], "lines_text": ["lines"], "read_year": ["text"], "read_lines": ["text"]},
    "judging": {"judged": ["year", "lines"], "alike_books": ["book", "other"]},
}


def tree_of(file):
    return ast.parse((PACKAGE / (file + ".py")).read_text())


def arguments_of(function):
    return [one.arg for one in function.args.args]


class Interface(unittest.TestCase):
    def test_classes_and_their_methods(self):
        for file, classes in CLASSES.items():
            there = {node.name: node for node in tree_of(file).body if isinstance(node, ast.ClassDef)}
            for name, (arguments, base, methods) in classes.items():
                with self.subTest(file=file, name=name):
                    self.assertEqual([base] if base else [], [one.id for one in there[name].bases])
                    own = {one.name: arguments_of(one) for one in there[name].body if isinstance(one, ast.FunctionDef)}
                    self.assertEqual(None if arguments is None else ["self"] + arguments, own.get("__init__"))
                    for method, taken in methods.items():
                        self.assertEqual(["self"] + taken, own[method])

    def test_functions(self):
        for file, functions in FUNCTIONS.items():
            there = {node.name: node for node in tree_of(file).body if isinstance(node, ast.FunctionDef)}
            for name, arguments in functions.items():
                self.assertEqual(arguments, arguments_of(there[name]))

    def test_each_is_imported_from_its_file(self):
        for file in [*CLASSES, *FUNCTIONS]:
            module = importlib.import_module("knotpurse." + file)
            for name in [*CLASSES.get(file, {}), *FUNCTIONS.get(file, {})]:
                self.assertEqual(module.__name__, inspect.getmodule(getattr(module, name)).__name__)


if __name__ == "__main__":
    unittest.main()
