"""What holds of the package's files as a whole."""

import ast
import os
import unittest
import warnings

from exits import faults_of_class
from overlapturns import books, checker, console, counts, errors, judging, loops, made, mending, outcomes, papers, programs
from overlapturns import samples, times, touching, worlds

# The language's few modules of the library, from which names may be imported.
LIBRARY = ("__future__", "collections", "heapq", "itertools", "math")

FOLDER = os.path.join(os.path.dirname(os.path.dirname(os.path.abspath(__file__))), "overlapturns")

# The methods and properties that the interface lists for a class stand in its own body.
METHODS = {
    worlds.Texts: ("known", "cell", "work", "__eq__", "__repr__"),
    worlds.Numbers: ("__init__", "known", "cell", "work", "modulus", "seed", "__eq__", "__repr__"),
    loops.Loop: (
        "__init__", "text", "lines", "inputs", "names", "outs", "arrays", "words", "run", "__eq__", "__str__", "__repr__",
    ),
    programs.Program: (
        "__init__", "text", "lines", "places", "arrays", "words", "outs", "takes", "run", "without", "put", "__eq__",
        "__str__", "__repr__",
    ),
    counts.Counts: (
        "__init__", "start", "period", "members", "first", "endless", "within", "__or__", "__and__", "__sub__",
        "__contains__", "__eq__", "__str__", "__repr__",
    ),
    outcomes.Outcome: ("results", "stored", "loaded", "kinds", "value", "__eq__"),
    times.Costs: ("__init__", "works", "loads", "stores", "copies", "steps", "tests", "__eq__"),
    books.Book: (
        "__init__", "put", "drop", "wish", "lift", "undo", "trial", "tried", "names", "wishes", "changes", "__getitem__", "__contains__",
        "__eq__",
    ),
    console.Console: ("__init__", "say"),
    times.Form: ("rise", "__call__", "__add__", "__sub__", "__eq__", "__repr__"),
}

# The classes and functions of the interface stand in the files under which they are listed.
LISTED = {
    errors: ("WrongValue", "WrongMoment"), worlds: ("Texts", "Numbers"), loops: ("Loop",), programs: ("Program",),
    outcomes: ("Outcome",), samples: ("sample_loop", "sample_program", "hasty_program"), counts: ("Counts",),
    judging: ("is_right", "first_wrong", "wrong_counts"), touching: ("first_beyond", "reach"),
    mending: ("needless", "bounds_that_do", "offsets_that_do", "wrong_distances"),
    times: ("Costs", "Form", "time_of", "never_more", "never_more_from"), made: ("plain", "unrolled", "ahead"),
    books: ("Book",), checker: ("accepts",), papers: ("paper_of_wrong", "paper_of_beyond", "paper_of_needed"), console: ("Console",),
}


# Of these the plain methods of a class are not: they are called where nothing may be changed.
CHANGING_NOTHING = (
    "__eq__", "__str__", "__repr__", "__contains__", "__getitem__", "__or__", "__and__", "__add__", "__sub__", "__len__",
)


def texts_of_files():
    texts = {}
    for name in sorted(os.listdir(FOLDER)):
        if name.endswith(".py"):
            with open(os.path.join(FOLDER, name), encoding="utf-8", newline="") as file:
                texts[name] = file.read()
    return texts


def functions_of_files():
    """All functions and methods as triples of the class (None for functions), the name and the node."""
    functions = []
    for text in texts_of_files().values():
        for node in ast.parse(text).body:
            if isinstance(node, ast.FunctionDef):
                functions.append((None, node.name, node))
            elif isinstance(node, ast.ClassDef):
                functions += [(node.name, below.name, below) for below in node.body if isinstance(below, ast.FunctionDef)]
    return functions


def is_property(node):
    return any(isinstance(mark, ast.Name) and mark.id == "property" for mark in node.decorator_list)


def called_names(node):
    """The names of functions and of methods that are called in a function."""
    calls = [below.func for below in ast.walk(node) if isinstance(below, ast.Call)]
    plain = {call.id for call in calls if isinstance(call, ast.Name)}
    return plain, {call.attr for call in calls if isinstance(call, ast.Attribute)}


def is_changing(node):
    """Whether a method assigns to attributes, or to items of attributes."""
    for below in ast.walk(node):
        if isinstance(below, (ast.Attribute, ast.Subscript)) and isinstance(below.ctx, ast.Store):
            while isinstance(below, ast.Subscript):
                below = below.value
            if isinstance(below, ast.Attribute):
                return True
    return False


class PackageTest(unittest.TestCase):
    def test_folder_holds_python_files_alone(self):
        others = [name for name in os.listdir(FOLDER) if not name.endswith(".py") and name != "__pycache__"]
        self.assertEqual(others, [])
        self.assertIn("__init__.py", os.listdir(FOLDER))

    def test_characters_and_sizes(self):
        for name, text in texts_of_files().items():
            with self.subTest(name=name):
                self.assertEqual([c for c in text if c != "\n" and not " " <= c <= "~"], [])
                self.assertLess(len(text.splitlines()), 400)
                self.assertEqual([line for line in text.splitlines() if len(line) > 120], [])

    def test_functions_are_small(self):
        for name, text in texts_of_files().items():
            for node in ast.walk(ast.parse(text)):
                if isinstance(node, ast.FunctionDef):
                    with self.subTest(name=name, function=node.name):
                        self.assertLessEqual(node.end_lineno - node.lineno + 1, 40)

    def test_comparing_and_asking_change_nothing(self):
        # Calls of methods count by the name alone, so no other method of that name may change anything.
        functions = functions_of_files()
        waiting = [node for made, name, node in functions if made and (name in CHANGING_NOTHING or is_property(node))]
        met = []
        while waiting:
            node = waiting.pop()
            if node in met:
                continue
            met.append(node)
            plain, methods = called_names(node)
            for made, name, other in functions:
                if name in (methods if made else plain):
                    with self.subTest(asked=node.name, called=name):
                        self.assertFalse(made and is_changing(other))
                    waiting.append(other)
        self.assertGreater(len(met), 40)

    def test_exits_store_plain_values_alone(self):
        met = 0
        for name, text in texts_of_files().items():
            for node in ast.parse(text).body:
                if isinstance(node, ast.ClassDef):
                    met += any(isinstance(below, ast.FunctionDef) and below.name == "__exit__" for below in node.body)
                    with self.subTest(name=name, made=node.name):
                        self.assertEqual(faults_of_class(node), [])
        self.assertGreater(met, 0)

    def test_rows_that_are_too_much_for_an_exit_are_seen(self):
        head = "class C:\n    def __exit__(self, kind, value, trace):\n"
        below = "    def leave(self):\n        around = self.around\n        self.around = around.below\n"
        for rows, faults in (
            (("pass",), []), (("self.leave()",), [3]), (("self.around = self.around.below",), []),
            (("net = self.net", "net.now = 0", "net.rows.append(self.now)"), []), (("a = self.a", "b = self.b"), [4]),
            (("self.rows.pop()",), [3]), (("self.now = self.rows[0]",), [3]), (("self.told = value",), [3]),
            (("if kind is not None:", "    self.now = self.was"), []), (("if value is None:", "    self.now -= 1"), [3]),
            (("return kind is None",), [3]), (("return False",), []), (("self.shut(1)",), [3]), (("raise KeyError",), [3]),
        ):
            text = head + "".join(f"        {row}\n" for row in rows) + below
            with self.subTest(rows=rows):
                self.assertEqual(faults_of_class(ast.parse(text).body[0]), faults)

    def test_python_gives_no_warning(self):
        for name, text in texts_of_files().items():
            with self.subTest(name=name), warnings.catch_warnings():
                warnings.simplefilter("error")
                compile(text, name, "exec")

    def test_imports_are_of_the_package_or_few_others(self):
        for name, text in texts_of_files().items():
            for node in ast.walk(ast.parse(text)):
                with self.subTest(name=name):
                    self.assertNotIsInstance(node, ast.Import)
                    if isinstance(node, ast.ImportFrom):
                        self.assertEqual(node.level, 0)
                        own = node.module.startswith("overlapturns.")
                        self.assertTrue(own or node.module in LIBRARY)

    def test_all_is_defined_where_it_is_listed(self):
        for module, names in LISTED.items():
            for name in names:
                with self.subTest(name=name):
                    self.assertEqual(getattr(module, name).__module__, module.__name__)
        for below in (errors.WrongValue.__subclasses__(), errors.WrongMoment.__subclasses__()):
            for made in below:
                with self.subTest(name=made.__name__):
                    self.assertEqual(made.__module__, "overlapturns.errors")

    def test_methods_stand_in_the_class_itself(self):
        for made, names in METHODS.items():
            for name in names:
                with self.subTest(made=made.__name__, name=name):
                    self.assertIn(name, vars(made))


if __name__ == "__main__":
    unittest.main()
