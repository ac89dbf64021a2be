import ast
import os
import unittest

import nearlines

FOLDER = os.path.dirname(os.path.abspath(nearlines.__file__))

# What the document's interface lists: each name with its arguments, or None for an error; for another class the
# arguments of its methods.
INTERFACE = {
    "errors.py": {
        "LineError": None, "BadRow": None, "BadBoxes": None, "BadShape": None, "NoBox": None, "BadPlan": None,
    },
    "rows.py": {"fits": ["row", "size", "count"], "checked": ["rows", "size"]},
    "notes.py": {"shown": ["row"], "read_row": ["line"]},
    "machine.py": {"run": ["rows", "boxes", "steps"]},
    "near.py": {
        "Near": {
            "__init__": ["self", "boxes", "room", "width", "rule"], "look": ["self", "box"],
            "put": ["self", "box", "number"], "held": ["self"], "settle": ["self"],
        },
    },
    "running.py": {"run_near": ["rows", "boxes", "steps", "room", "width", "rule"]},
    "depths.py": {"depths": ["touches", "width"], "missed_by": ["told", "room"]},
    "plans.py": {"walked": ["touches", "room", "width", "plan"], "best": ["touches", "room", "width"]},
}


def files():
    """The names of all that is in the package's folder, but for what Python itself keeps there."""
    return sorted(name for name in os.listdir(FOLDER) if name != "__pycache__")


def text_of(name):
    with open(os.path.join(FOLDER, name), encoding="utf-8", newline="") as held:
        return held.read()


def parsed(name):
    return ast.parse(text_of(name))


def arguments_of(node):
    return [argument.arg for argument in node.args.args]


def defined(nodes, listed):
    """What of the listed names is defined by the nodes, in the form of the list."""
    found = {}
    for node in nodes:
        if isinstance(node, ast.FunctionDef):
            found[node.name] = arguments_of(node)
        if isinstance(node, ast.ClassDef):
            methods = listed.get(node.name)
            found[node.name] = defined(node.body, methods) if methods else None
    return {name: worth for name, worth in found.items() if name in listed}


class Package(unittest.TestCase):
    def test_nothing_but_python_files(self):
        self.assertIn("__init__.py", files())
        for name in files():
            self.assertRegex(name, r"\A[a-z0-9_]+\.py\Z")

    def test_plain_signs_and_short_lines_and_files(self):
        for name in files():
            lines = text_of(name).split("\n")
            self.assertLessEqual(len(lines), 399, name)
            for line in lines:
                self.assertLessEqual(len(line), 120, (name, line))
                self.assertRegex(line, r"\A[ -~]*\Z", name)

    def test_short_functions(self):
        for name in files():
            for node in ast.walk(parsed(name)):
                if isinstance(node, ast.FunctionDef):
                    self.assertLessEqual(node.end_lineno - node.lineno + 1, 40, (name, node.name))

    def test_imports_from_the_package_alone(self):
        for name in files():
            for node in ast.walk(parsed(name)):
                self.assertNotIsInstance(node, ast.Import, name)
                if isinstance(node, ast.ImportFrom):
                    self.assertEqual(node.level, 0, name)
                    self.assertRegex(node.module, r"\Anearlines\.[a-z0-9_]+\Z", name)

    def test_the_interface_is_defined_where_it_is_listed(self):
        for name, listed in INTERFACE.items():
            self.assertEqual(defined(parsed(name).body, listed), listed, name)


if __name__ == "__main__":
    unittest.main()
