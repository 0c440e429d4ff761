"""The interface, and those rules of LANGUAGE.md that a short look at the files can check."""

import ast
import builtins
import inspect
import pathlib
import re
import unittest

from downwords import (
    analysis, bounds, certificates, closures, counting, excluded, expressions, grammars, languages, notation, operations,
    products, words, workbench,
)

PACKAGE = pathlib.Path(__file__).resolve().parent.parent / "downwords"

ARGUMENTS = {
    words: {
        "is_alphabet": ["thing"],
        "is_word": ["alphabet", "thing"],
        "is_subword": ["word", "other"],
        "first_positions": ["word", "other"],
        "minimal_words": ["words"],
        "common_superwords": ["word", "other"],
    },
    products: {
        "is_product": ["alphabet", "thing"],
        "format_product": ["product"],
        "parse_product": ["text"],
        "accepts": ["product", "word"],
        "reduce_product": ["product"],
        "unfold": ["product", "count"],
        "is_included": ["product", "other"],
        "common_part": ["product", "other"],
    },
    languages: {
        "Language": ["alphabet", "products"],
        "parse_language": ["text"],
        "closure_of_words": ["alphabet", "words"],
        "is_subset": ["one", "other"],
    },
    operations: {
        "union": ["one", "other"],
        "intersection": ["one", "other"],
        "concatenation": ["one", "other"],
        "shuffle": ["one", "other"],
        "residual": ["one", "other"],
        "reversal": ["language"],
        "star": ["language"],
        "derivative": ["language", "word"],
    },
    counting: {
        "automaton": ["language"],
        "count_words": ["language", "length"],
        "count_all": ["language"],
        "word_at": ["language", "number"],
        "number_of": ["language", "word"],
        "least_difference": ["one", "other"],
    },
    excluded: {
        "excluded_words": ["language"],
        "avoiding": ["alphabet", "words"],
    },
    expressions: {
        "closure_of_expression": ["alphabet", "text"],
    },
    grammars: {
        "Grammar": ["alphabet", "productions"],
    },
    analysis: {
        "ranks": ["grammar"],
        "components": ["grammar"],
        "component_kinds": ["grammar"],
    },
    closures: {
        "closure": ["grammar", "symbol"],
        "side_letters": ["grammar", "symbol"],
    },
    bounds: {
        "closure_table": ["grammar"],
        "is_upper_bound": ["grammar", "thing"],
    },
    certificates: {
        "certificate": ["grammar", "symbol", "word"],
        "is_certificate": ["grammar", "symbol", "word", "thing"],
    },
    workbench: {
        "Workbench": ["alphabet"],
    },
    notation: {
        "format_grammar": ["grammar"],
        "parse_grammar": ["text"],
        "format_workbench": ["workbench"],
        "parse_workbench": ["text"],
    },
}

METHODS = {
    languages.Language: {
        "alphabet": ["self"], "products": ["self"], "contains": ["self", "word"], "is_empty": ["self"],
        "is_full": ["self"], "letters": ["self"], "__eq__": ["self", "other"], "__str__": ["self"],
    },
    grammars.Grammar: {
        "alphabet": ["self"], "productions": ["self"], "symbols": ["self"], "__eq__": ["self", "other"],
    },
    workbench.Workbench: {
        "alphabet": ["self"], "define": ["self", "name", "definition"], "remove": ["self", "name"], "undo": ["self", "count"],
        "redo": ["self", "count"], "value": ["self", "name"], "names": ["self", "missing"], "definition": ["self", "name"],
        "dependents": ["self", "name", "direct"], "__eq__": ["self", "other"],
    },
}

# The parameters that must be passed by name, with their default values.
BY_NAME = {
    "undo": {"count": 1}, "redo": {"count": 1}, "names": {"missing": False}, "dependents": {"direct": False},
}

ALLOWED_BUILTINS = """
len range enumerate zip min max sum abs sorted reversed int str bool list tuple dict set isinstance ord
repr any all divmod iter next super property staticmethod classmethod NotImplemented
Exception ValueError TypeError KeyError IndexError LookupError ZeroDivisionError
""".split()

BARRED_WORDS = """
type typing typing_extensions enum Enum IntEnum StrEnum Flag IntFlag Generic Protocol ABC ABCMeta
namedtuple NamedTuple TypedDict TYPE_CHECKING abstractmethod
""".split()


def files():
    return sorted(path for path in PACKAGE.iterdir() if path.name != "__pycache__")


def trees():
    return [(path, ast.parse(path.read_text())) for path in files()]


class TestInterface(unittest.TestCase):

    def test_arguments_and_files(self):
        for module, functions in ARGUMENTS.items():
            for name, expected in functions.items():
                function = getattr(module, name)
                parameters = inspect.signature(function).parameters
                self.assertEqual(list(parameters), expected, name)
                for part in parameters.values():
                    self.assertEqual((part.kind, part.default), (part.POSITIONAL_OR_KEYWORD, part.empty), name)
                self.assertEqual(function.__module__, module.__name__)

    def test_methods_stand_in_the_class_itself(self):
        for kind, methods in METHODS.items():
            for name, expected in methods.items():
                self.assertIn(name, vars(kind))
                parameters = inspect.signature(vars(kind)[name]).parameters
                self.assertEqual(list(parameters), expected, name)
                by_name = {part.name: part.default for part in parameters.values() if part.kind == part.KEYWORD_ONLY}
                self.assertEqual(by_name, BY_NAME.get(name, {}))


class TestRules(unittest.TestCase):

    def test_files(self):
        for path in files():
            self.assertRegex(path.name, r"^[a-z0-9_]+\.py$")
        self.assertIn("__init__.py", [path.name for path in files()])

    def test_sizes_and_characters(self):
        for path in files():
            text = path.read_text()
            lines = text.split("\n")
            self.assertLessEqual(len(lines), 399, path)
            for number, line in enumerate(lines, start=1):
                self.assertLessEqual(len(line), 120, (path, number))
                self.assertTrue(all(" " <= sign <= "~" for sign in line), (path, number))

    def test_functions_are_short(self):
        for path, tree in trees():
            for node in ast.walk(tree):
                if isinstance(node, ast.FunctionDef):
                    self.assertLessEqual(node.end_lineno - node.lineno + 1, 40, (path, node.name))

    def test_imports_stay_inside_the_package(self):
        for path, tree in trees():
            for node in ast.walk(tree):
                self.assertNotIsInstance(node, ast.Import, path)
                if isinstance(node, ast.ImportFrom):
                    self.assertTrue(node.module.startswith("downwords."), path)
                    self.assertEqual(node.level, 0)

    def test_no_other_builtins(self):
        known = set(dir(builtins)) - set(ALLOWED_BUILTINS)
        for path, tree in trees():
            for node in ast.walk(tree):
                if isinstance(node, ast.Name):
                    self.assertNotIn(node.id, known, (path, node.lineno))

    def test_plain_names(self):
        for path, tree in trees():
            for node in ast.walk(tree):
                if isinstance(node, (ast.Name, ast.arg)):
                    name = node.id if isinstance(node, ast.Name) else node.arg
                    self.assertFalse(name.startswith("_"), (path, name))
                    self.assertNotIn(name, dir(builtins) if isinstance(node, ast.arg) else [])

    def test_no_name_means_two_things(self):
        for path, tree in trees():
            taken = set(dir(builtins)) | {node.name for node in tree.body if isinstance(node, ast.ClassDef)}
            for node in tree.body:
                if isinstance(node, ast.ImportFrom):
                    taken |= {alias.name for alias in node.names}
            for node in ast.walk(tree):
                if isinstance(node, ast.Name) and isinstance(node.ctx, ast.Store):
                    self.assertNotIn(node.id, taken, (path, node.lineno))
                if isinstance(node, ast.arg):
                    self.assertNotIn(node.arg, taken, (path, node.lineno))

    def test_methods_and_attributes_have_different_names(self):
        methods, attributes = set(), set()
        for path, tree in trees():
            for node in ast.walk(tree):
                if isinstance(node, ast.ClassDef):
                    methods |= {part.name for part in node.body if isinstance(part, ast.FunctionDef)}
                if isinstance(node, ast.Attribute) and isinstance(node.ctx, ast.Store):
                    attributes.add(node.attr)
        self.assertEqual(methods & attributes, set())

    def test_imports_name_the_file_that_defines(self):
        defined = {}
        for path, tree in trees():
            names = {node.name for node in tree.body if isinstance(node, (ast.FunctionDef, ast.ClassDef))}
            names |= {node.targets[0].id for node in tree.body if isinstance(node, ast.Assign)}
            defined["downwords." + path.stem] = names
        for path, tree in trees():
            for node in tree.body:
                if isinstance(node, ast.ImportFrom):
                    self.assertLessEqual({alias.name for alias in node.names}, defined[node.module], path)

    def test_every_import_is_used(self):
        for path, tree in trees():
            used = {node.id for node in ast.walk(tree) if isinstance(node, ast.Name)}
            for node in tree.body:
                if isinstance(node, ast.ImportFrom):
                    self.assertLessEqual({alias.name for alias in node.names}, used, path)

    def test_no_generators_and_no_sort(self):
        # A class has ==, so any, all, sum, sorted and the like take lists, and nothing is sorted in place.
        for path, tree in trees():
            for node in ast.walk(tree):
                self.assertNotIsInstance(node, (ast.GeneratorExp, ast.Yield, ast.Lambda), path)
                if isinstance(node, ast.Attribute):
                    self.assertNotEqual(node.attr, "sort", (path, node.lineno))

    def test_is_only_with_constants(self):
        for path, tree in trees():
            for node in ast.walk(tree):
                if isinstance(node, ast.Compare) and any(isinstance(op, (ast.Is, ast.IsNot)) for op in node.ops):
                    self.assertIsInstance(node.comparators[0], ast.Constant, (path, node.lineno))

    def test_barred_words_and_signs(self):
        for path, tree in trees():
            text = path.read_text()
            for word in BARRED_WORDS:
                self.assertIsNone(re.search(rf"\b{word}\b", text), (path, word))
            for node in ast.walk(tree):
                if isinstance(node, ast.Constant):
                    self.assertNotIsInstance(node.value, float)
                    if isinstance(node.value, str):
                        self.assertNotIn("%", node.value, path)


if __name__ == "__main__":
    unittest.main()
