"""The form of the package's files: the rules of LANGUAGE.md that are told by counting."""

import ast
import pathlib
import unittest

PACKAGE = pathlib.Path(__file__).resolve().parent.parent / "copyplaces"
# What the interface lists, by the file that defines it.
INTERFACE = {
    "errors.py": ["InvalidProgram", "InvalidPrices", "InvalidClaim", "NotBreaking", "NotAClause", "ParseError",
                  "UnknownPath", "UnknownLabel", "UnknownCheckpoint", "UnknownRecord", "LimitExceeded"],
    "programs.py": ["require_program", "labels_of", "spot_paths", "way_count"],
    "flow.py": ["flow_start", "flow"],
    "values.py": ["run", "values_behind"],
    "sharing.py": ["run_shared", "cells_behind", "held_behind", "stale_behind"],
    "facts.py": ["start_facts", "leads", "facts_of", "ways_to"],
    "safety.py": ["is_safe", "breaking"],
    "clauses.py": ["bonds", "reasons", "read_clause", "is_clause", "thinned"],
    "least.py": ["least_copyings", "least_clauses", "price_of", "least_price", "cheapest"],
    "claims.py": ["require_claim", "decide"],
    "checker.py": ["first_fault"],
    "store.py": ["run_store", "slots_behind"],
    "sessions.py": ["Session"],
    "texts.py": ["format_program", "format_copying", "parse_program", "parse_copying"],
}


def files():
    return sorted(path for path in PACKAGE.rglob("*") if path.is_file() and path.suffix != ".pyc")


def defined_in(path):
    """The names of the functions, classes and values that the file itself defines."""
    names = []
    for node in ast.parse(path.read_text()).body:
        if isinstance(node, (ast.FunctionDef, ast.ClassDef)):
            names.append(node.name)
        elif isinstance(node, ast.Assign):
            names.extend(target.id for target in node.targets)
    return names


class RulesTest(unittest.TestCase):
    def test_only_python_files(self):
        self.assertIn("__init__.py", [path.name for path in files()])
        self.assertEqual([path for path in files() if path.suffix != ".py"], [])

    def test_sizes_and_characters(self):
        for path in files():
            lines = path.read_bytes().decode("ascii").split("\n")
            self.assertLessEqual(len(lines), 399, path)
            for line in lines:
                self.assertLessEqual(len(line), 120, path)
                self.assertTrue(all(" " <= sign <= "~" for sign in line), (path, line))

    def test_lengths_of_functions(self):
        for path in files():
            for node in ast.walk(ast.parse(path.read_text())):
                if isinstance(node, ast.FunctionDef):
                    self.assertLessEqual(node.end_lineno - node.lineno + 1, 40, (path, node.name))

    def test_imports_name_the_defining_file(self):
        for path in files():
            for node in ast.walk(ast.parse(path.read_text())):
                self.assertNotIsInstance(node, ast.Import)
                if isinstance(node, ast.ImportFrom) and node.module.startswith("copyplaces"):
                    told = (PACKAGE.parent / node.module.replace(".", "/")).with_suffix(".py")
                    for name in node.names:
                        self.assertIn(name.name, defined_in(told), path)

    def test_the_interface_is_defined_in_its_files(self):
        for name, listed in INTERFACE.items():
            for one in listed:
                self.assertEqual(defined_in(PACKAGE / name).count(one), 1, (name, one))


if __name__ == "__main__":
    unittest.main()
