"""The interface by its names and arguments, and what can be seen of the code itself."""

import ast
import builtins
import inspect
import pathlib
import re
import unittest

import bitneed
from bitneed import (bits, desk, errors, forms, fronts, losing, needs, papers, plain, reading, rules,
                     running, showing, truly, trying, widths, words)

# What ../shared/LANGUAGE.md lets a package use, as far as this one has come to use it.
BUILTINS = {"len", "range", "enumerate", "zip", "min", "max", "sum", "abs", "sorted", "reversed",
            "int", "str", "bool", "list", "tuple", "dict", "set", "any", "all", "type", "ValueError"}
METHODS = {"append", "extend", "get", "items", "join", "split", "update", "bit_length", "add",
           "removeprefix", "isascii", "isalpha", "isdigit", "islower", "pop",
           "replace"}
BARRED = {"register", "mro", "elements", "open", "input", "law", "version_info", "with_traceback",
          "add_note", "eval", "exec", "exit", "id", "dir", "vars", "help", "globals", "locals"}
BARRED_BEGINNINGS = ("_(wall|pe_|dcw_|enum_|cm_|twin_re_|lay_|law_|stub_|sre|WallAttr|cold|tuplegetter"
                     "|outside|record|written_out|member_names)")

FOLDER = pathlib.Path(bitneed.__file__).parent

INTERFACE = {
    words: {"is_whole": ["thing", "least", "most"], "is_name": ["thing"], "number_in": ["word"],
            "rows_of": ["text"]},
    forms: {"is_program": ["thing"], "first_wrong": ["program"], "need_program": ["thing"],
            "uses": ["row"], "places_of": ["program"], "set_places": ["program"],
            "names_at": ["program", "place"], "put_at": ["program", "place", "other"]},
    showing: {"expr_text": ["expr"], "program_text": ["program"]},
    reading: {"program_in": ["text"]},
    bits: {"is_facts": ["wide", "thing"], "least_word": ["facts"],
           "greatest_word": ["wide", "facts"], "common_facts": ["one", "other"],
           "ways_of": ["wide", "facts"], "first_facts": ["wide", "facts"],
           "expr_facts": ["wide", "expr", "facts"]},
    fronts: {"facts_ahead": ["program"]},
    running: {"run": ["program", "words"], "steps": ["program", "words"],
              "narrowed": ["program", "widths", "words"]},
    losing: {"loses": ["program"], "lossless": ["program"]},
    needs: {"needs": ["program"], "needs_of": ["program"], "is_idle": ["program", "place"]},
    widths: {"widths": ["program"], "widest": ["program"], "spared": ["program"]},
    papers: {"facts_paper": ["program"], "needs_paper": ["program"],
             "check_facts": ["program", "paper"], "check_needs": ["program", "facts", "needs"],
             "paper_widths": ["program", "facts", "needs"]},
    truly: {"holds_truly": ["program", "widths"], "alone": ["program", "place"],
            "together": ["program"]},
    plain: {"made_plain": ["program"], "plain_at": ["program", "place"], "is_plain": ["program"]},
    rules: {"rewritten": ["program", "rule", "place"], "same_but_names": ["one", "other"]},
    trying: {"put_in": ["program"], "told_apart": ["program", "other"],
             "apart_by_widths": ["program", "widths"], "counting": ["program", "place"],
             "turned": ["program", "place", "bits", "words"]},
    desk: {"Desk": ["text"], "all_said": ["text", "lines"]},
}

REFUSALS = ["BitError", "BadText", "Unsound", "BadProgram", "BadInput", "BadPlace", "BadFacts",
            "BadWidths", "BadPaper", "BadAsked", "TooMany", "BadLine"]


def files():
    return sorted(FOLDER.glob("*.py"))


def trees():
    return [(path, ast.parse(path.read_text())) for path in files()]


def bound_names(tree):
    """The names that are given a meaning within it: parameters, variables, functions, classes."""
    names = {node.id for node in ast.walk(tree)
             if isinstance(node, ast.Name) and isinstance(node.ctx, ast.Store)}
    names |= {node.arg for node in ast.walk(tree) if isinstance(node, ast.arg)}
    return names | {node.name for node in ast.walk(tree)
                    if isinstance(node, (ast.FunctionDef, ast.ClassDef)) and node is not tree}


class Interface(unittest.TestCase):
    def test_functions_and_their_arguments(self):
        for module, functions in INTERFACE.items():
            for name, arguments in functions.items():
                function = getattr(module, name)
                self.assertEqual(function.__module__, module.__name__)
                self.assertEqual(list(inspect.signature(function).parameters), arguments)

    def test_classes_stand_in_their_file(self):
        for name in REFUSALS:
            self.assertEqual(getattr(errors, name).__module__, "bitneed.errors")

    def test_methods_stand_in_their_class(self):
        said = vars(desk.Desk)["said"]
        self.assertEqual(list(inspect.signature(said).parameters), ["self", "line"])


class Code(unittest.TestCase):
    def test_the_package_holds_nothing_but_its_files(self):
        for path in FOLDER.iterdir():
            self.assertTrue(path.suffix == ".py" or path.name == "__pycache__", path)

    def test_sizes(self):
        for path in files():
            lines = path.read_text().split("\n")
            self.assertLessEqual(len(lines), 400, path)
            self.assertLessEqual(max(len(line) for line in lines), 120, path)
        for path, tree in trees():
            for node in ast.walk(tree):
                if isinstance(node, ast.FunctionDef):
                    self.assertLessEqual(node.end_lineno - node.lineno + 1, 40, node.name)

    def test_signs(self):
        for path in files():
            for sign in path.read_text():
                self.assertTrue(" " <= sign <= "~" or sign == "\n", (path, sign))

    def test_nothing_is_imported_from_outside(self):
        for path, tree in trees():
            for node in ast.walk(tree):
                self.assertNotIsInstance(node, ast.Import, path)
                if isinstance(node, ast.ImportFrom):
                    self.assertEqual(node.module.split(".")[0], "bitneed", path)
                    self.assertEqual(node.level, 0, path)

    def test_class_names(self):
        # Unlike all other names, that of a class doesn't begin with an underscore.
        for path, tree in trees():
            for node in ast.walk(tree):
                if isinstance(node, ast.ClassDef):
                    self.assertRegex(node.name, r"\A[A-Za-z][A-Za-z0-9_]*\Z", path)

    def test_plain_names(self):
        for path, tree in trees():
            fields = {node.attr for node in ast.walk(tree) if isinstance(node, ast.Attribute)}
            for name in (bound_names(tree) | fields) - {"_", "__init__"}:
                self.assertRegex(name, r"\A_?[A-Za-z][A-Za-z0-9_]*\Z", path)
                self.assertIsNone(re.match(BARRED_BEGINNINGS, name), (path, name))

    def test_builtins(self):
        for path, tree in trees():
            bound = bound_names(tree)
            for node in ast.walk(tree):
                if isinstance(node, ast.Name) and hasattr(builtins, node.id):
                    self.assertIn(node.id, BUILTINS, path)
            for name in bound - {"__init__"}:
                self.assertFalse(hasattr(builtins, name) or name in BARRED, (path, name))

    def test_methods(self):
        own = {node.name for _, tree in trees() for node in ast.walk(tree)
               if isinstance(node, ast.FunctionDef)}
        for path, tree in trees():
            for node in ast.walk(tree):
                if isinstance(node, ast.Call) and isinstance(node.func, ast.Attribute):
                    self.assertIn(node.func.attr, METHODS | own, path)

    def test_locals_are_not_called_like_classes_and_imports(self):
        for path, tree in trees():
            taken = {name.name for node in tree.body if isinstance(node, ast.ImportFrom)
                     for name in node.names}
            taken |= {node.name for node in tree.body if isinstance(node, ast.ClassDef)}
            for function in ast.walk(tree):
                if isinstance(function, ast.FunctionDef):
                    self.assertFalse(taken & bound_names(function), (path, function.name))

    def test_statements_and_values(self):
        for path, tree in trees():
            for node in ast.walk(tree):
                self.assertNotIsInstance(node, (
                    ast.Global, ast.Nonlocal, ast.With, ast.Lambda, ast.Yield, ast.Assert, ast.Div,
                    ast.Pow, ast.Set, ast.SetComp, ast.NamedExpr, ast.Match), path)
                if isinstance(node, ast.Try):
                    self.assertEqual([node.orelse, node.finalbody], [[], []], path)
                if isinstance(node, ast.ExceptHandler):
                    # Own refusals alone, each by its name.
                    self.assertIn(node.type.id, REFUSALS, path)
                if isinstance(node, (ast.FunctionDef, ast.ClassDef)):
                    self.assertEqual(node.decorator_list, [])
                if isinstance(node, ast.Constant):
                    self.assertNotIsInstance(node.value, (float, complex, bytes), path)
                    self.assertNotIn("%", str(node.value), path)

    def test_nothing_is_kept_between_askings(self):
        # At the top of a file stand constants alone, and nothing changes a table.
        for path, tree in trees():
            tables = set()
            for node in tree.body:
                self.assertIsInstance(node, (ast.Expr, ast.ImportFrom, ast.FunctionDef, ast.ClassDef,
                                             ast.Assign), path)
                if isinstance(node, ast.Assign):
                    self.assertEqual(node.targets[0].id, node.targets[0].id.upper(), path)
                    tables.add(node.targets[0].id)
            for node in ast.walk(tree):
                if isinstance(node, (ast.Subscript, ast.Name)) and isinstance(node.ctx, ast.Store):
                    held = node.value if isinstance(node, ast.Subscript) else None
                    self.assertNotIn(getattr(held, "id", None), tables, path)


if __name__ == "__main__":
    unittest.main()
