"""Points [2], [27] and [28]: which definitions a workbench takes, and what it says of them."""

import random
import unittest

from downwords.errors import CyclicDefinition, InvalidAlphabet, InvalidDefinition, TooLarge, UndefinedName
from downwords.grammars import Grammar
from downwords.languages import Language
from downwords.words import is_alphabet
from downwords.workbench import Workbench
from support import NOT_TEXTS, ODD_TEXTS, raised
from workbench_support import mentioned, needed, slow_is_definition, some_definition, with_tuples

RIGHT = [
    ("products", []), ("products", ()), ("products", [()]), ("products", [(("opt", "a"),), (("star", "ab"), ("opt", "b"))]),
    ("products", ((("opt", "a"), ("star", "a")),)), ("words", []), ("words", ()), ("words", ["", "ab", "ab"]),
    ("words", ("b",)), ("avoid", []), ("avoid", ["aab", ""]), ("avoid", ("a",) * 20), ("expression", "a"),
    ("expression", "(ab)*|()+"), ("grammar", [("S", "")], "S"), ("grammar", (("S", "aTb"),), "T"),
    ("grammar", [("S", "STU"), ("V", "a")], "U"), ("union", "x", "y"), ("union", "x", "x"), ("meet", "abcdefgh", "z"),
    ("concat", "a", "b"), ("residual", "opt", "star"), ("reverse", "reverse"), ("star", "star"),
]

WRONG = [
    (), ("products",), ("products", [], []), ("products", None), ("products", {}), ("products", ""), ("products", "a?"),
    ("products", [[]]), ("products", [("opt", "a")]), ("products", [(["opt", "a"],)]), ("products", [[("opt", "a")]]),
    ("products", [(("opt", "c"),)]), ("products", [(("star", "ba"),)]), ("products", [(("star", ""),)]), ("products", [None]),
    ("products", [(("opt", "ab"),)]), ("products", (("opt", "a"),)), ("products", [Language("ab", [])]), ("products", ["-"]),
    ("words",), ("words", "ab"), ("words", ""), ("words", None), ("words", ["c"]), ("words", [None]), ("words", [["a"]]),
    ("words", ["a "]), ("words", ["A"]), ("words", ["-"]), ("words", {"a": "b"}), ("words", [], []), ("words", [("a",)]),
    ("avoid",), ("avoid", "ab"), ("avoid", ["abc"]), ("avoid", [1]), ("avoid", None), ("avoid", ["a"], ["b"]),
    ("expression",), ("expression", ""), ("expression", None), ("expression", ["a"]), ("expression", "(a"), ("expression", "c"),
    ("expression", "a|"), ("expression", "a", "b"), ("expression", "a b"), ("expression", ("a",)),
    ("grammar",), ("grammar", [("S", "a")]), ("grammar", [("S", "a")], "T"), ("grammar", [], "S"), ("grammar", [("S", "c")], "S"),
    ("grammar", [["S", "a"]], "S"), ("grammar", [("S", "a")], None), ("grammar", [("S", "a")], ["S"]), ("grammar", "Sa", "S"),
    ("grammar", [("S", "aaaa")], "S"), ("grammar", {"S": "a"}, "S"), ("grammar", "S", [("S", "a")]), ("grammar", [("S", "")], ""),
    ("grammar", [("S", "a")], "S", "S"), ("grammar", Grammar("ab", [("S", "a")]), "S"), ("grammar", [("S", "aT")], "a"),
    ("union",), ("union", "x"), ("union", "x", "y", "z"), ("union", "x", "Y"), ("union", "x", ""), ("union", "x1", "y"),
    ("union", None, "x"), ("union", ["x"], "y"), ("union", "x", ("y",)), ("union", "abcdefghi", "x"), ("union", "x y", "z"),
    ("meet", "x"), ("meet", 1, 2), ("concat", "x"), ("concat", "x", "y", "x"), ("residual", "x"), ("residual", "x", None),
    ("reverse",), ("reverse", "x", "y"), ("reverse", ""), ("reverse", None), ("reverse", "Ab"), ("star", "x", "x"), ("star",),
    ("star", "abcdefghi"), ("star", 1), ("star", ["x"]), ("intersection", "x", "y"), ("concatenation", "x", "y"), ("shuffle", "x", "y"),
    ("Union", "x", "y"), ("", "x"), (None, "x"), (1, "x"), (["star"], "x"), (("star",), "x"), ({}, "x"), ("star ", "x"),
    ["star", "x"], ["products", []], {"star": "x"}, "star", "star x", ("union x y",), (Language("ab", []), "x"),
]


class TestMaking(unittest.TestCase):

    def test_alphabets(self):
        for thing in NOT_TEXTS + ODD_TEXTS + ["", "ba", "aa", "abcd", Workbench("ab")]:
            self.assertFalse(is_alphabet(thing))
            self.assertEqual(raised(InvalidAlphabet, Workbench, thing), {})
        for alphabet in ["a", "ab", "xyz"]:
            bench = Workbench(alphabet)
            self.assertEqual([bench.alphabet(), bench.names(), bench.names(missing=True)], [alphabet, [], []])


class TestForms(unittest.TestCase):

    def check(self, definition, expected, name="x", alphabet="ab"):
        bench = Workbench(alphabet)
        bench.define("old", ("words", [alphabet[0]]))
        before = bench.names()
        found = raised(InvalidDefinition, bench.define, name, definition)
        self.assertEqual(found, None if expected else {}, (name, definition))
        if expected:
            self.assertEqual(bench.definition(name), with_tuples(definition))
        else:
            self.assertEqual(bench.names(), before)
            bench.undo()
            self.assertEqual(bench.names(), [])

    def test_right(self):
        for definition in RIGHT:
            self.assertTrue(slow_is_definition("ab", definition), definition)
            self.check(definition, True, name="new")

    def test_wrong(self):
        for definition in WRONG + NOT_TEXTS + ODD_TEXTS:
            self.assertFalse(slow_is_definition("ab", definition), definition)
            self.check(definition, False)

    def test_any_object_as_a_part(self):
        for thing in NOT_TEXTS + ODD_TEXTS + ["", "abc"]:
            for definition in [("products", thing), ("products", [thing]), ("products", [(thing,)]), ("products", [(("opt", thing),)]),
                               ("words", thing), ("words", ["a", thing]), ("avoid", thing), ("avoid", (thing,)), ("expression", thing),
                               ("grammar", thing, "S"), ("grammar", [thing], "S"), ("grammar", [("S", "a")], thing),
                               ("grammar", [("S", thing)], "S"), ("union", thing, "x"), ("union", "x", thing), ("star", thing),
                               ("reverse", thing), (thing, "x"), (thing, []), ("residual", thing, thing), (thing,)]:
                self.check(definition, slow_is_definition("ab", definition), name="new")

    def test_names(self):
        for name in ["a", "z", "abcdefgh", "aaaaaaaa", "union", "none"]:
            self.check(("words", ["a"]), True, name=name)
            if name != "a":
                self.check(("star", name), True, name="a")
                self.check(("concat", "y", name), True, name="a")
        wrong = ["", "abcdefghi", "A", "aB", "a1", "a b", " a", "a ", "a-b", "a_b", "-", "a\n", "`", "{"]
        for name in wrong + NOT_TEXTS + ODD_TEXTS:
            self.check(("words", ["a"]), False, name=name)
            self.check(("star", name), False)
            self.check(("meet", name, "y"), False)
            self.check(None, False, name=name)

    def test_limits_of_grammars(self):
        for many in [1, 15, 16, 17, 18]:
            self.check(("grammar", [("S", "a")] * many, "S"), many <= 16)
            self.check(("grammar", (("S", "a"),) * many, "S"), many <= 16)
        for many in range(1, 9):
            rows = [(symbol, "") for symbol in "ABCDEFGH"[:many]]
            self.check(("grammar", rows, "A"), many <= 6)
            self.check(("grammar", rows, "ABCDEFGH"[many - 1]), many <= 6)
        for size in range(6):
            self.check(("grammar", [("S", "a" * size)], "S"), size <= 3)

    def test_limits_of_expressions(self):
        for many in [1, 59, 60, 61, 62, 100]:
            self.check(("expression", "a" * many), many <= 60)
        self.check(("expression", "(" * 29 + "a" + ")" * 29), True)
        self.check(("expression", "(" * 30 + "a" + ")" * 30), False)
        # It has too many products, but it is an expression.
        self.check(("expression", "(a|b)" * 12), True)

    def test_nothing_is_computed(self):
        for definition in [("words", ["a" * 100]), ("avoid", ["a" * 100]), ("products", [(("opt", "a"),) * 100]),
                           ("grammar", [("R", "a"), ("R", "b"), ("S", "RRR"), ("T", "SSS")], "T")]:
            self.check(definition, True)

    def test_other_alphabets(self):
        for definition in [("words", ["c"]), ("avoid", ["abc"]), ("products", [(("star", "abc"),)]), ("expression", "c"),
                           ("grammar", [("S", "c")], "S")]:
            self.check(definition, False, alphabet="ab")
            self.check(definition, False, alphabet="xyz")
            self.check(definition, True, alphabet="abc")

    def test_changed_definitions(self):
        source = random.Random(130)
        seen = {True: 0, False: 0}
        for _ in range(1500):
            alphabet = source.choice(["a", "ab", "abc"])
            definition = some_definition(source, alphabet, ["x", "y", "zz"])
            self.assertTrue(slow_is_definition(alphabet, definition))
            for _ in range(source.choice([1, 1, 2])):
                definition = changed(source, definition)
            expected = slow_is_definition(alphabet, definition)
            seen[expected] += 1
            self.check(definition, expected, name="new", alphabet=alphabet)
        self.assertGreater(min(seen.values()), 200, seen)


PARTS = [None, 0, 1, True, "", "a", "b", "c", "S", "T", "x", "opt", "star", "union", "words", "ab", (), [], ("opt", "a"),
         (("opt", "a"),), ("S", "a"), [("S", "a")], ["a"], ("a",), {}, Language("ab", []), Grammar("ab", [])]


def changed(source, thing):
    """The object with a change at some depth."""
    if isinstance(thing, (tuple, list)):
        part = list(thing)
        turn = source.random()
        if turn < 0.1:
            return source.choice([tuple, list])(part)
        if turn < 0.2:
            part.insert(source.randrange(len(part) + 1), source.choice(PARTS))
        elif part and turn < 0.3:
            del part[source.randrange(len(part))]
        elif part:
            at = source.randrange(len(part))
            part[at] = changed(source, part[at])
        return type(thing)(part)
    if isinstance(thing, str) and source.random() < 0.7:
        at = source.randrange(len(thing) + 1)
        return thing[:at] + source.choice(["", "a", "b", "c", "S", "?", "|", ")", "x"]) + thing[at + source.randrange(2):]
    return source.choice(PARTS)


class TestCopies(unittest.TestCase):

    def test_lists_are_copied(self):
        words, products, productions = ["a"], [(("opt", "a"),)], [("S", "a")]
        bench = Workbench("ab")
        bench.define("w", ("words", words))
        bench.define("p", ("products", products))
        bench.define("g", ("grammar", productions, "S"))
        for passed in [words, products, productions]:
            passed.append(None)
            passed[0] = "c"
        self.assertEqual(bench.definition("w"), ("words", ("a",)))
        self.assertEqual(bench.definition("p"), ("products", ((("opt", "a"),),)))
        self.assertEqual(bench.definition("g"), ("grammar", (("S", "a"),), "S"))
        self.assertEqual([str(bench.value(name)) for name in "wpg"], ["ab: a?"] * 3)
        bench.undo(count=3)
        bench.redo(count=3)
        self.assertEqual([str(bench.value(name)) for name in "wpg"], ["ab: a?"] * 3)

    def test_arguments_stay(self):
        words = ["ab", "", "a"]
        definition = ("words", words)
        bench = Workbench("ab")
        bench.define("x", definition)
        bench.value("x")
        self.assertEqual(words, ["ab", "", "a"])
        self.assertIs(definition[1], words)

    def test_returned_lists_are_new(self):
        bench = Workbench("ab")
        bench.define("x", ("star", "y"))
        for _ in range(2):
            self.assertEqual([bench.names(), bench.names(missing=True), bench.dependents("y")], [["x"], ["y"], ["x"]])
            bench.names().clear()
            bench.names(missing=True).append("q")
            bench.dependents("y").clear()
            bench.dependents("y", direct=True).clear()

    def test_tuples_in_place_of_lists(self):
        bench = Workbench("ab")
        for definition in RIGHT:
            bench.define("new", definition)
            found = bench.definition("new")
            self.assertEqual(found, with_tuples(definition))
            self.assertTrue(all(isinstance(part, (str, tuple)) for part in found))


class TestErrors(unittest.TestCase):

    def test_cycles(self):
        bench = Workbench("ab")
        bench.define("x", ("star", "y"))
        self.assertEqual(raised(CyclicDefinition, bench.define, "y", ("meet", "z", "x")), {"name": "y"})
        for definition in [("star", "x"), ("union", "x", "y"), ("union", "y", "x"), ("reverse", "x"), ("residual", "x", "x")]:
            self.assertEqual(raised(CyclicDefinition, bench.define, "x", definition), {"name": "x"})
        self.assertEqual(bench.names(), ["x"])
        bench.define("y", ("concat", "z", "w"))
        bench.define("w", ("reverse", "v"))
        for name in "yzwv":
            for definition in [("star", "x"), ("union", "q", "x"), ("union", "x", "q")]:
                self.assertEqual(raised(CyclicDefinition, bench.define, name, definition), {"name": name})
        bench.define("q", ("star", "x"))
        self.assertEqual(raised(CyclicDefinition, bench.define, "v", ("star", "q")), {"name": "v"})
        # Without the definition between them, there is no way back.
        bench.remove("w")
        bench.define("v", ("star", "q"))
        self.assertEqual(raised(CyclicDefinition, bench.define, "w", ("reverse", "v")), {"name": "w"})

    def test_replacing_may_end_a_way(self):
        bench = Workbench("ab")
        bench.define("x", ("star", "y"))
        bench.define("x", ("words", ["a"]))
        bench.define("y", ("star", "x"))
        self.assertEqual(raised(CyclicDefinition, bench.define, "x", ("star", "y")), {"name": "x"})

    def test_invalid_comes_first(self):
        bench = full_bench()
        for definition in [("union", "a", "A"), ("star", "a", "a"), ("star",), None, ("words", ["c"])]:
            for name in ["a", "new", "A", None]:
                self.assertEqual(raised(InvalidDefinition, bench.define, name, definition), {})
        self.assertEqual(raised(InvalidDefinition, bench.define, "New", ("star", "a")), {})

    def test_cycles_come_before_the_number(self):
        bench = full_bench()
        bench.define("a", ("star", "new"))
        self.assertEqual(raised(CyclicDefinition, bench.define, "new", ("star", "a")), {"name": "new"})
        self.assertEqual(raised(CyclicDefinition, bench.define, "newer", ("star", "newer")), {"name": "newer"})
        self.assertEqual(raised(TooLarge, bench.define, "new", ("star", "b")), {"limit": 24})

    def test_twenty_four(self):
        bench = full_bench()
        self.assertEqual(len(bench.names()), 24)
        for name in ["new", "y", "aa"]:
            self.assertEqual(raised(TooLarge, bench.define, name, ("words", [])), {"limit": 24})
        bench.define("a", ("words", ["ab"]))
        bench.remove("b")
        bench.define("new", ("words", []))
        self.assertEqual(raised(TooLarge, bench.define, "b", ("words", [])), {"limit": 24})
        bench.undo()
        bench.define("b", ("words", []))
        self.assertEqual(len(bench.names()), 24)

    def test_an_error_changes_nothing(self):
        bench = full_bench()
        bench.undo(count=2)
        before = [bench.names(), [bench.definition(name) for name in bench.names()]]
        bench.redo()
        bench.undo()
        for name, definition in [("a", None), ("A", ("words", [])), ("a", ("star", "a")), ("b", ("union", "a", "b"))]:
            with self.assertRaises((InvalidDefinition, CyclicDefinition)):
                bench.define(name, definition)
        with self.assertRaises(UndefinedName):
            bench.remove("new")
        self.assertEqual([bench.names(), [bench.definition(name) for name in bench.names()]], before)
        # What was taken back can still be made again, and what was done can still be taken back.
        bench.redo(count=2)
        self.assertEqual(len(bench.names()), 24)
        self.assertIsNotNone(raised(TooLarge, bench.define, "new", ("words", [])))
        bench.undo(count=24)
        self.assertEqual(bench.names(), [])


def full_bench():
    bench = Workbench("ab")
    for letter in "abcdefghijklmnopqrstuvwx":
        bench.define(letter, ("words", [letter] if letter in "ab" else []))
    return bench


class TestNames(unittest.TestCase):

    def test_example(self):
        bench = Workbench("ab")
        self.assertIsNone(bench.define("x", ("union", "y", "z")))
        bench.define("y", ("expression", "a*"))
        self.assertEqual([bench.names(), bench.names(missing=True), bench.dependents("z")], [["x", "y"], ["z"], ["x"]])

    def test_cyclic_example(self):
        bench = Workbench("ab")
        bench.define("x", ("star", "y"))
        self.assertEqual(raised(CyclicDefinition, bench.define, "y", ("meet", "z", "x")), {"name": "y"})

    def test_against_all_definitions(self):
        source = random.Random(131)
        pool = ["a", "ab", "b", "ba", "c", "x", "xy", "y", "z", "zz"]
        for _ in range(60):
            bench = Workbench("ab")
            definitions = {}
            for _ in range(source.randrange(12)):
                name, definition = source.choice(pool), some_definition(source, "ab", pool)
                trial = {**definitions, name: definition}
                if name in needed(trial, name):
                    self.assertEqual(raised(CyclicDefinition, bench.define, name, definition), {"name": name})
                else:
                    bench.define(name, definition)
                    definitions = trial
                self.check_names(bench, definitions, pool)

    def check_names(self, bench, definitions, pool):
        self.assertEqual(bench.names(), sorted(definitions))
        self.assertEqual(bench.names(missing=False), sorted(definitions))
        every = {other for definition in definitions.values() for other in mentioned(definition)}
        self.assertEqual(bench.names(missing=True), sorted(every - set(definitions)))
        for name in pool:
            expected = sorted(other for other in definitions if name in needed(definitions, other))
            self.assertEqual(bench.dependents(name), expected)
            self.assertEqual(bench.dependents(name, direct=False), expected)
            expected = sorted(other for other in definitions if name in mentioned(definitions[other]))
            self.assertEqual(bench.dependents(name, direct=True), expected)
            if name in definitions:
                self.assertEqual(bench.definition(name), with_tuples(definitions[name]))

    def test_undefined_names(self):
        bench = Workbench("ab")
        bench.define("x", ("star", "y"))
        for thing in NOT_TEXTS + ODD_TEXTS + ["", "y", "z", "xx", "X", ["x"], ("x",)]:
            for function in [bench.definition, bench.remove, bench.value]:
                self.assertEqual(raised(UndefinedName, function, thing), {"name": thing})
            self.assertEqual(bench.dependents(thing), ["x"] if thing == "y" else [])
            self.assertEqual(bench.dependents(thing, direct=True), ["x"] if thing == "y" else [])
        self.assertEqual(bench.names(), ["x"])

    def test_dependents_need_no_definition(self):
        bench = Workbench("ab")
        for name, other in [("b", "a"), ("c", "b"), ("d", "c")]:
            bench.define(name, ("star", other))
        self.assertEqual([bench.dependents(name) for name in "abcd"], [["b", "c", "d"], ["c", "d"], ["d"], []])
        self.assertEqual([bench.dependents(name, direct=True) for name in "abcd"], [["b"], ["c"], ["d"], []])
        bench.remove("b")
        self.assertEqual([bench.dependents(name) for name in "abcd"], [[], ["c", "d"], ["d"], []])
        self.assertEqual(bench.names(missing=True), ["b"])

    def test_remove(self):
        bench = Workbench("ab")
        bench.define("x", ("words", ["a"]))
        self.assertIsNone(bench.remove("x"))
        self.assertEqual(bench.names(), [])
        self.assertEqual(raised(UndefinedName, bench.remove, "x"), {"name": "x"})

    def test_parameters_by_name(self):
        bench = Workbench("ab")
        bench.define("x", ("star", "y"))
        for call in [lambda: bench.undo(1), lambda: bench.redo(1), lambda: bench.names(True), lambda: bench.dependents("y", True)]:
            with self.assertRaises(TypeError):
                call()


if __name__ == "__main__":
    unittest.main()
