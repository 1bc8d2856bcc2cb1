"""The section "The interface" of the document, and the outer form of the files."""

import ast
import unittest
from pathlib import Path

PACKAGE = Path(__file__).resolve().parent.parent / "undertap"
MODULES = (
    "errors", "rules", "houses", "ticks", "courses", "reach", "wishes", "waits", "lots", "likeness", "back", "screen",
    "journals", "texts", "desk",
)
# The classes that each module must define, with their methods and properties.
CLASSES = {
    "errors": {
        "TapError": (), "BadRule": (), "BadHouse": (), "BadStanding": (), "BadMoment": (), "BadWish": (),
        "BadMeasure": (), "BadScreens": (), "OtherHouses": (), "TooMany": (), "NothingDone": (), "BadJournal": (),
        "BadText": (),
    },
    "rules": {"Rule": ("__init__", "__eq__", "way", "still", "hold", "pins", "guard", "with_part")},
    "houses": {"House": ("__init__", "__eq__", "rule", "room", "top", "many", "goes", "lag")},
    "screen": {
        "Screen": ("__init__", "__eq__", "__enter__", "__exit__", "tick", "undo", "outcomes_ahead", "house", "course",
                   "standing", "shown", "tried", "copy"),
    },
    "desk": {"Desk": ("__init__", "reply")},
}
# The parameters of methods, behind the object itself.
PARAMETERS = {
    ("rules", "Rule"): {"__init__": ("way", "still", "hold", "pins", "guard"), "with_part": ("part", "value")},
    ("houses", "House"): {"__init__": ("rule", "room", "top", "many", "goes", "lag")},
    ("screen", "Screen"): {
        "__init__": ("house",), "tick": ("change", "hand"), "undo": (), "outcomes_ahead": (), "tried": ("work",),
        "copy": (),
    },
    ("desk", "Desk"): {"__init__": ("text",), "reply": ("line",)},
}
# The functions that each module must define, with the names of their parameters.
FUNCTIONS = {
    "ticks": {
        "is_standing": ("house", "thing"), "first_standing": ("house",), "moments_at": ("house", "standing"),
        "tick_at": ("house", "standing", "moment"),
    },
    "courses": {"is_course": ("house", "thing"), "run_of": ("house", "course"), "behind_of": ("house", "course")},
    "reach": {"standings_of": ("house",), "course_to": ("house", "standing")},
    "wishes": {
        "wish_holds": ("house", "wish"), "breaker_of": ("house", "wish"), "paper_of": ("house", "wish"),
        "is_paper": ("house", "wish", "thing"),
    },
    "waits": {
        "most_of": ("house", "measure"), "measure_paper": ("house", "measure"),
        "is_measure_paper": ("house", "measure", "thing"),
    },
    "lots": {"triples_that": ("house", "wishes"), "least_triples": ("house", "wishes")},
    "likeness": {"parting": ("one", "other"), "show_alike": ("one", "other")},
    "back": {
        "course_back": ("house", "screens"), "changes_back": ("house", "screens"), "waiting_back": ("house", "screens"),
    },
    "journals": {"first_wrong": ("house", "journal"), "replayed": ("house", "journal")},
    "texts": {
        "house_text": ("house",), "read_house": ("text",), "course_text": ("house", "course"),
        "read_course": ("house", "text"),
    },
}


def tree_of(path):
    return ast.parse(path.read_text(encoding="utf-8"))


class Interface(unittest.TestCase):
    def test_init_defines_nothing(self):
        for node in tree_of(PACKAGE / "__init__.py").body:
            self.assertIsInstance(node, ast.Expr)
            self.assertIsInstance(node.value, ast.Constant)

    def test_each_module_is_there(self):
        for name in MODULES:
            self.assertTrue((PACKAGE / f"{name}.py").exists(), name)

    def test_each_class_is_defined_in_its_module(self):
        for module, classes in CLASSES.items():
            nodes = {node.name for node in tree_of(PACKAGE / f"{module}.py").body if isinstance(node, ast.ClassDef)}
            for name in classes:
                with self.subTest(module, name=name):
                    self.assertIn(name, nodes)

    def test_each_method_is_defined_in_its_class(self):
        for module, classes in CLASSES.items():
            for node in tree_of(PACKAGE / f"{module}.py").body:
                if isinstance(node, ast.ClassDef) and node.name in classes:
                    own = {part.name for part in node.body if isinstance(part, ast.FunctionDef)}
                    with self.subTest(module, name=node.name):
                        self.assertLessEqual(set(classes[node.name]), own)

    def test_each_method_has_its_parameters(self):
        for (module, name), methods in PARAMETERS.items():
            body = next(node.body for node in tree_of(PACKAGE / f"{module}.py").body
                        if isinstance(node, ast.ClassDef) and node.name == name)
            found = {node.name: node.args for node in body if isinstance(node, ast.FunctionDef)}
            for method, parameters in methods.items():
                with self.subTest(name, method=method):
                    self.assertEqual(tuple(part.arg for part in found[method].args[1:]), parameters)
                    self.assertEqual(found[method].defaults, [])

    def test_each_function_is_defined_in_its_module(self):
        for module, functions in FUNCTIONS.items():
            nodes = {node.name: node for node in tree_of(PACKAGE / f"{module}.py").body
                     if isinstance(node, ast.FunctionDef)}
            for name, parameters in functions.items():
                with self.subTest(module, name=name):
                    self.assertIn(name, nodes)
                    self.assertEqual(tuple(part.arg for part in nodes[name].args.args), parameters)
                    self.assertEqual(nodes[name].args.defaults, [])

    def test_each_module_imports_only_modules_named_before_it(self):
        for name in MODULES:
            later = {f"undertap.{other}" for other in MODULES[MODULES.index(name):]}
            for node in ast.walk(tree_of(PACKAGE / f"{name}.py")):
                if isinstance(node, ast.ImportFrom):
                    with self.subTest(name, module=node.module):
                        self.assertEqual(node.level, 0)
                        self.assertNotIn(node.module, later)


class Form(unittest.TestCase):
    def test_the_package_holds_python_files_only(self):
        names = [path.name for path in PACKAGE.iterdir() if path.name != "__pycache__"]
        self.assertEqual([name for name in names if not name.endswith(".py")], [])

    def test_signs_lines_and_files(self):
        for path in sorted(PACKAGE.glob("*.py")):
            lines = path.read_text(encoding="utf-8").split("\n")
            with self.subTest(path.name):
                self.assertLessEqual(len(lines), 400)
                self.assertEqual([line for line in lines if len(line) > 120], [])
                self.assertEqual([line for line in lines if any(not " " <= sign <= "~" for sign in line)], [])

    def test_no_function_is_long(self):
        for path in sorted(PACKAGE.glob("*.py")):
            for node in ast.walk(tree_of(path)):
                if isinstance(node, ast.FunctionDef):
                    with self.subTest(path.name, name=node.name):
                        self.assertLessEqual(node.end_lineno - node.lineno + 1, 40)

    def test_imports_name_their_names(self):
        for path in sorted(PACKAGE.glob("*.py")):
            for node in ast.walk(tree_of(path)):
                with self.subTest(path.name):
                    self.assertNotIsInstance(node, ast.Import)
                    if isinstance(node, ast.ImportFrom):
                        self.assertNotIn("*", [alias.name for alias in node.names])
                        known = node.module.split(".")[0] in ("undertap", "heapq", "math", "itertools", "__future__")
                        self.assertTrue(known, node.module)


if __name__ == "__main__":
    unittest.main()
