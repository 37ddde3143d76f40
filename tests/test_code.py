"""The interface by its names and arguments, and what can be seen of the code itself."""

import ast
import inspect
import pathlib
import unittest

import bitneed
from bitneed import (bits, errors, forms, fronts, losing, needs, reading, running, showing,
                     words)

FOLDER = pathlib.Path(bitneed.__file__).parent

INTERFACE = {
    words: {"is_whole": ["thing", "least", "most"], "is_name": ["thing"], "number_in": ["word"],
            "rows_of": ["text"]},
    forms: {"is_program": ["thing"], "first_wrong": ["program"], "need_program": ["thing"],
            "uses": ["row"], "places_of": ["program"], "set_places": ["program"],
            "names_at": ["program", "place"], "put_at": ["program", "place", "other"]},
    showing: {"expr_text": ["expr"], "program_text": ["program"]},
    reading: {"program_in": ["text"]},
    bits: {"is_facts": ["wide", "thing"], "least_word": ["facts"],
           "greatest_word": ["wide", "facts"], "common_facts": ["one", "other"],
           "ways_of": ["wide", "facts"], "first_facts": ["wide", "facts"],
           "expr_facts": ["wide", "expr", "facts"]},
    fronts: {"facts_ahead": ["program"]},
    running: {"run": ["program", "words"], "steps": ["program", "words"],
              "narrowed": ["program", "widths", "words"]},
    losing: {"loses": ["program"], "lossless": ["program"]},
    needs: {"needs": ["program"], "needs_of": ["program"], "is_idle": ["program", "place"]},
}

REFUSALS = ["BitError", "BadText", "Unsound", "BadProgram", "BadInput", "BadPlace", "BadFacts",
            "BadWidths", "BadPaper", "BadAsked", "TooMany", "BadLine"]


def files():
    return sorted(FOLDER.glob("*.py"))


def trees():
    return [(path, ast.parse(path.read_text())) for path in files()]


class Interface(unittest.TestCase):
    def test_functions_and_their_arguments(self):
        for module, functions in INTERFACE.items():
            for name, arguments in functions.items():
                function = getattr(module, name)
                self.assertEqual(function.__module__, module.__name__)
                self.assertEqual(list(inspect.signature(function).parameters), arguments)

    def test_classes_stand_in_their_file(self):
        for name in REFUSALS:
            self.assertEqual(getattr(errors, name).__module__, "bitneed.errors")


class Code(unittest.TestCase):
    def test_the_package_holds_nothing_but_its_files(self):
        for path in FOLDER.iterdir():
            self.assertTrue(path.suffix == ".py" or path.name == "__pycache__", path)

    def test_sizes(self):
        for path in files():
            lines = path.read_text().split("\n")
            self.assertLessEqual(len(lines), 400, path)
            self.assertLessEqual(max(len(line) for line in lines), 120, path)
        for path, tree in trees():
            for node in ast.walk(tree):
                if isinstance(node, ast.FunctionDef):
                    self.assertLessEqual(node.end_lineno - node.lineno + 1, 40, node.name)

    def test_signs(self):
        for path in files():
            for sign in path.read_text():
                self.assertTrue(" " <= sign <= "~" or sign == "\n", (path, sign))

    def test_nothing_is_imported_from_outside(self):
        for path, tree in trees():
            for node in ast.walk(tree):
                self.assertNotIsInstance(node, ast.Import, path)
                if isinstance(node, ast.ImportFrom):
                    self.assertEqual(node.module.split(".")[0], "bitneed", path)
                    self.assertEqual(node.level, 0, path)


if __name__ == "__main__":
    unittest.main()
