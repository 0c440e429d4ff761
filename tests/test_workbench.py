"""Points [2], [3], [28] and [29]: undoing and redoing, values, and when two workbenches are equal."""

import itertools
import random
import unittest

from downwords.bounds import closure_table
from downwords.closures import closure
from downwords.errors import (
    CyclicDefinition, InvalidDefinition, NothingToRedo, NothingToUndo, TooLarge, TooMany, UndefinedName,
)
from downwords.excluded import avoiding
from downwords.expressions import closure_of_expression
from downwords.grammars import Grammar
from downwords.languages import Language, closure_of_words
from downwords.operations import concatenation, intersection, residual, reversal, star, union
from downwords.words import is_subword
from downwords.workbench import Workbench
from expression_support import closure_words, some_choices, text_of
from grammar_support import closed_words
from support import NOT_TEXTS, ODD_TEXTS, all_words, divides, raised
from workbench_support import fresh_workbench, needed, outcome, some_definition, some_source, with_tuples

POOL = ["a", "ab", "b", "c", "d", "x", "xy", "y", "z"]


def snapshot(bench):
    return {name: bench.definition(name) for name in bench.names()}


def bench_of(alphabet, definitions):
    bench = Workbench(alphabet)
    for name, definition in definitions.items():
        bench.define(name, definition)
    return bench


class TestUndo(unittest.TestCase):

    def test_one_change(self):
        bench = Workbench("ab")
        bench.define("x", ("words", ["a"]))
        bench.define("x", ("words", ["b"]))
        bench.remove("x")
        states = [{"x": ("words", ("b",))}, {"x": ("words", ("a",))}, {}]
        for state in states:
            self.assertIsNone(bench.undo())
            self.assertEqual(snapshot(bench), state)
        self.assertEqual(raised(NothingToUndo, bench.undo), {})
        for state in states[1::-1] + [{}]:
            self.assertIsNone(bench.redo())
            self.assertEqual(snapshot(bench), state)
        self.assertEqual(raised(NothingToRedo, bench.redo), {})

    def test_several_changes(self):
        for many in range(1, 7):
            for count in list(range(1, 9)) + [10 ** 9]:
                bench = Workbench("ab")
                for at in range(many):
                    bench.define("x", ("words", ["a" * at]))
                before = snapshot(bench)
                if count > many:
                    with self.assertRaises(NothingToUndo):
                        bench.undo(count=count)
                    self.assertEqual(snapshot(bench), before)
                    with self.assertRaises(NothingToRedo):
                        bench.redo()
                    continue
                bench.undo(count=count)
                expected = {} if count == many else {"x": ("words", ("a" * (many - count - 1),))}
                self.assertEqual(snapshot(bench), expected)
                for more in [count + 1, count + 2, 10 ** 9]:
                    with self.assertRaises(NothingToRedo):
                        bench.redo(count=more)
                self.assertEqual(snapshot(bench), expected)
                bench.redo(count=count)
                self.assertEqual(snapshot(bench), before)
                bench.undo(count=many)
                self.assertEqual(snapshot(bench), {})

    def test_a_new_change_ends_redoing(self):
        for change in [lambda bench: bench.define("y", ("star", "x")), lambda bench: bench.remove("x"),
                       lambda bench: bench.define("x", ("words", ["a"]))]:
            bench = Workbench("ab")
            bench.define("x", ("words", ["a"]))
            bench.define("z", ("words", []))
            bench.undo()
            change(bench)
            self.assertEqual(raised(NothingToRedo, bench.redo), {})
            bench.undo(count=2)
            self.assertEqual(bench.names(), [])
            bench.redo(count=2)
            self.assertEqual(raised(NothingToRedo, bench.redo), {})

    def test_what_is_no_change(self):
        bench = Workbench("ab")
        bench.define("x", ("words", ["a"]))
        bench.define("y", ("star", "x"))
        bench.undo()
        for function, arguments in [(bench.define, ("x", None)), (bench.define, ("X", ("words", []))),
                                    (bench.define, ("x", ("star", "x"))), (bench.remove, ("q",)), (bench.value, ("q",))]:
            with self.assertRaises((InvalidDefinition, CyclicDefinition, UndefinedName)):
                function(*arguments)
        bench.value("x")
        bench.names()
        bench.definition("x")
        bench.dependents("x")
        bench.redo()
        self.assertEqual(bench.names(), ["x", "y"])
        bench.undo(count=2)
        self.assertEqual(raised(NothingToUndo, bench.undo), {})

    def test_the_same_definition_is_a_change(self):
        bench = Workbench("ab")
        for _ in range(3):
            bench.define("x", ("words", ["a"]))
        bench.undo()
        bench.define("x", ("words", ("a",)))
        self.assertEqual(raised(NothingToRedo, bench.redo), {})
        bench.undo(count=2)
        self.assertEqual(bench.names(), ["x"])
        bench.undo()
        self.assertEqual(bench.names(), [])
        self.assertEqual(raised(NothingToUndo, bench.undo), {})

    def test_undoing_brings_back_a_cycle_s_end(self):
        # What was refused is allowed after undoing, and what was allowed is refused after redoing.
        bench = Workbench("ab")
        bench.define("x", ("star", "y"))
        self.assertEqual(raised(CyclicDefinition, bench.define, "y", ("star", "x")), {"name": "y"})
        bench.undo()
        bench.redo()
        self.assertEqual(raised(CyclicDefinition, bench.define, "y", ("star", "x")), {"name": "y"})
        bench.undo()
        bench.define("y", ("star", "x"))
        self.assertEqual(raised(CyclicDefinition, bench.define, "x", ("star", "y")), {"name": "x"})

    def test_the_number_after_undoing(self):
        bench = Workbench("ab")
        for letter in "abcdefghijklmnopqrstuvwx":
            bench.define(letter, ("words", []))
        bench.remove("a")
        bench.undo()
        self.assertEqual(raised(TooLarge, bench.define, "y", ("words", [])), {"limit": 24})
        bench.redo()
        bench.define("y", ("words", []))
        bench.undo(count=2)
        self.assertEqual(len(bench.names()), 24)


class History:
    """A workbench beside the list of all its states, of which one is the present one."""

    def __init__(self, alphabet):
        self.bench = Workbench(alphabet)
        self.states = [{}]
        self.at = 0

    def step(self, source):
        turn = source.random()
        if turn < 0.55:
            self.define(source.choice(POOL), some_definition(source, self.bench.alphabet(), POOL))
        elif turn < 0.65:
            self.remove(source.choice(POOL))
        elif turn < 0.85:
            self.move(-source.choice([1, 1, 1, 2, 3, 5, 40]))
        else:
            self.move(source.choice([1, 1, 1, 2, 3, 40]))

    def define(self, name, definition):
        state = {**self.states[self.at], name: with_tuples(definition)}
        if name in needed(state, name):
            assert raised(CyclicDefinition, self.bench.define, name, definition) == {"name": name}
        else:
            self.bench.define(name, definition)
            self.add(state)

    def remove(self, name):
        state = dict(self.states[self.at])
        if name not in state:
            assert raised(UndefinedName, self.bench.remove, name) == {"name": name}
        else:
            del state[name]
            self.bench.remove(name)
            self.add(state)

    def add(self, state):
        self.states = self.states[:self.at + 1] + [state]
        self.at += 1

    def move(self, steps):
        function, error = (self.bench.undo, NothingToUndo) if steps < 0 else (self.bench.redo, NothingToRedo)
        try:
            function(count=abs(steps))
            self.at += steps
            assert 0 <= self.at < len(self.states)
        except error:
            assert not 0 <= self.at + steps < len(self.states)


class TestHistories(unittest.TestCase):

    def check(self, history):
        bench = history.bench
        self.assertEqual(snapshot(bench), history.states[history.at])

    def check_values(self, bench, kinds):
        fresh = fresh_workbench(bench)
        for name in POOL:
            found = outcome(bench.value, name)
            self.assertEqual(found, outcome(fresh.value, name))
            self.assertEqual(found, outcome(bench.value, name))
            kinds.add(found[0] if isinstance(found, tuple) else "value")
        self.assertEqual(bench, fresh)

    def test_drawn_histories(self):
        kinds = set()
        for seed in range(12):
            source = random.Random(140 + seed)
            history = History(source.choice(["a", "ab", "abc"]))
            for step in range(150):
                history.step(source)
                self.check(history)
                if step % 10 == 0:
                    self.check_values(history.bench, kinds)
        self.assertLessEqual({"value", "UndefinedName"}, kinds)

    def test_two_in_turn(self):
        source = random.Random(160)
        one, other = History("ab"), History("ab")
        for _ in range(200):
            source.choice([one, other]).step(source)
            self.check(one)
            self.check(other)
            self.assertEqual(one.bench == other.bench, snapshot(one.bench) == snapshot(other.bench))

    def test_there_and_back(self):
        source = random.Random(161)
        history = History("ab")
        while len(history.states) < 130:
            history.define(source.choice(POOL), some_definition(source, "ab", POOL))
        values = [outcome(history.bench.value, name) for name in POOL]
        history.move(-history.at)
        self.assertEqual(snapshot(history.bench), {})
        self.assertEqual(raised(NothingToUndo, history.bench.undo), {})
        for _ in range(129):
            history.move(1)
            self.check(history)
        self.assertEqual([outcome(history.bench.value, name) for name in POOL], values)
        self.assertEqual(raised(NothingToRedo, history.bench.redo), {})

    def test_a_change_reaches_the_name_and_its_dependents(self):
        source = random.Random(162)
        for _ in range(40):
            history = History("ab")
            for name in POOL:
                history.define(name, some_definition(source, "ab", POOL))
            for _ in range(8):
                before = {name: outcome(history.bench.value, name) for name in POOL}
                name = source.choice(POOL)
                reached = [name] + history.bench.dependents(name)
                if source.random() < 0.5:
                    history.define(name, some_source(source, "ab", source.choice(["words", "products"])))
                else:
                    history.remove(name)
                for other in POOL:
                    if other not in reached:
                        self.assertEqual(outcome(history.bench.value, other), before[other])
                fresh = fresh_workbench(history.bench)
                for other in POOL:
                    self.assertEqual(outcome(history.bench.value, other), outcome(fresh.value, other))

    def test_values_are_not_kept_too_long(self):
        bench = bench_of("ab", {"x": ("union", "y", "z"), "y": ("words", ["a"]), "z": ("star", "y")})
        self.assertEqual(str(bench.value("x")), "ab: {a}*")
        bench.define("y", ("words", ["b"]))
        self.assertEqual(str(bench.value("x")), "ab: {b}*")
        bench.remove("z")
        self.assertEqual(raised(UndefinedName, bench.value, "x"), {"name": "z"})
        bench.undo()
        self.assertEqual(str(bench.value("x")), "ab: {b}*")
        bench.undo()
        self.assertEqual(str(bench.value("x")), "ab: {a}*")
        bench.redo()
        self.assertEqual(str(bench.value("x")), "ab: {b}*")


class TestValues(unittest.TestCase):

    def test_example(self):
        bench = Workbench("ab")
        bench.define("x", ("union", "y", "z"))
        bench.define("y", ("expression", "a*"))
        bench.define("z", ("words", ["ab"]))
        self.assertEqual([str(bench.value("x")), bench.definition("z")], ["ab: a?b? + {a}*", ("words", ("ab",))])
        bench.undo(count=2)
        self.assertEqual(raised(UndefinedName, bench.value, "x"), {"name": "y"})

    def check_words(self, bench, name, contains, most=4):
        found = bench.value(name)
        self.assertIsInstance(found, Language)
        self.assertEqual(found.alphabet(), bench.alphabet())
        for word in all_words(bench.alphabet(), most):
            self.assertIs(found.contains(word), bool(contains(word)), (bench.definition(name), word))

    def test_sources(self):
        source = random.Random(163)
        for alphabet in ["a", "ab", "abc"]:
            for kind in ["products", "words", "avoid", "grammar"]:
                for _ in range(15):
                    definition = some_source(source, alphabet, kind)
                    bench = bench_of(alphabet, {"x": definition})
                    if isinstance(outcome(bench.value, "x"), tuple):
                        continue
                    part = definition[1]
                    if kind == "products":
                        self.check_words(bench, "x", lambda word: any(divides(product, word) for product in part))
                    elif kind == "words":
                        self.check_words(bench, "x", lambda word: any(is_subword(word, other) for other in part))
                    elif kind == "avoid":
                        self.check_words(bench, "x", lambda word: not any(is_subword(other, word) for other in part))
                    else:
                        words = closed_words(Grammar(alphabet, part), 4)[definition[2]]
                        self.check_words(bench, "x", lambda word: word in words)

    def test_expressions(self):
        for alphabet in ["a", "ab", "abc"]:
            for choice in some_choices(random.Random(165), alphabet, 2, 40):
                bench = bench_of(alphabet, {"x": ("expression", text_of(choice))})
                if isinstance(outcome(bench.value, "x"), str):
                    words = closure_words(choice, 4)
                    self.check_words(bench, "x", lambda word: word in words)

    def test_operations(self):
        source = random.Random(164)
        tried = 0
        for alphabet in ["ab", "abc"]:
            for _ in range(40):
                one = some_source(source, alphabet, source.choice(["words", "products"]))
                other = some_source(source, alphabet, source.choice(["words", "products", "avoid"]))
                bench = bench_of(alphabet, {"p": one, "q": other})
                if any(isinstance(outcome(bench.value, name), tuple) for name in "pq"):
                    continue
                tried += 1
                first, second = bench.value("p"), bench.value("q")
                letters = set(first.letters())
                expected = {
                    ("union", "p", "q"): lambda word: first.contains(word) or second.contains(word),
                    ("meet", "p", "q"): lambda word: first.contains(word) and second.contains(word),
                    ("concat", "p", "q"): lambda word: any(
                        first.contains(word[:at]) and second.contains(word[at:]) for at in range(len(word) + 1)),
                    ("concat", "q", "p"): lambda word: any(
                        second.contains(word[:at]) and first.contains(word[at:]) for at in range(len(word) + 1)),
                    ("reverse", "p"): lambda word: first.contains(word[::-1]),
                    ("star", "p"): lambda word: set(word) <= letters,
                    ("meet", "p", "p"): first.contains,
                }
                starts = [word for word in all_words(alphabet, 6) if first.contains(word)]
                expected["residual", "p", "q"] = lambda word: all(second.contains(start + word) for start in starts)
                for definition, contains in expected.items():
                    bench.define("x", definition)
                    if isinstance(outcome(bench.value, "x"), str):
                        self.check_words(bench, "x", contains, 3)
        self.assertGreater(tried, 50)

    def test_the_functions_of_the_interface(self):
        alphabet = "abc"
        productions = [("S", "aSb"), ("S", "T"), ("T", "c")]
        one, other = closure_of_words(alphabet, ["abca"]), avoiding(alphabet, ["ab", "cb"])
        bench = bench_of(alphabet, {"p": ("words", ["abca"]), "q": ("avoid", ["ab", "cb"])})
        expected = [
            (("products", [(("opt", "a"), ("star", "a"))]), Language(alphabet, [(("star", "a"),)])),
            (("words", ["abca"]), one), (("avoid", ["ab", "cb"]), other),
            (("expression", "(ab)*c|c+"), closure_of_expression(alphabet, "(ab)*c|c+")),
            (("grammar", productions, "S"), closure(Grammar(alphabet, productions), "S")),
            (("grammar", productions, "T"), closure_table(Grammar(alphabet, productions))["T"]),
            (("union", "p", "q"), union(one, other)), (("meet", "p", "q"), intersection(one, other)),
            (("concat", "p", "q"), concatenation(one, other)), (("concat", "q", "p"), concatenation(other, one)),
            (("residual", "p", "q"), residual(one, other)), (("residual", "q", "p"), residual(other, one)),
            (("residual", "p", "p"), residual(one, one)), (("reverse", "q"), reversal(other)), (("star", "p"), star(one)),
        ]
        for definition, language in expected:
            bench.define("x", definition)
            self.assertEqual(bench.value("x"), language, definition)

    def test_long_chains(self):
        names = "abcdefghijklmnopqrstuvwx"
        bench = Workbench("ab")
        for name, other in zip(names, names[1:]):
            bench.define(name, ("union", other, other))
        self.assertEqual(raised(UndefinedName, bench.value, "a"), {"name": "x"})
        bench.define("x", ("words", ["ab"]))
        for name in names:
            self.assertEqual(str(bench.value(name)), "ab: a?b?")
        for name, other in zip(names, names[1:]):
            bench.define(name, ("reverse", other))
        self.assertEqual(str(bench.value("a")), "ab: b?a?")
        self.assertEqual(str(bench.value("b")), "ab: a?b?")
        self.assertEqual(bench.dependents("x"), list(names[:-1]))


class TestErrors(unittest.TestCase):

    # These values are just right, and just beyond the limits.
    words = [word for word in all_words("ab", 5) if len(word) == 5]

    def check(self, definitions, error, **fields):
        bench = bench_of("ab", definitions)
        for _ in range(2):
            self.assertEqual(outcome(bench.value, "x"), (error.__name__, fields), definitions)

    def test_undefined_names(self):
        self.check({"y": ("words", [])}, UndefinedName, name="x")
        self.check({"x": ("union", "z", "y")}, UndefinedName, name="y")
        self.check({"x": ("union", "z", "y"), "y": ("words", [])}, UndefinedName, name="z")
        self.check({"x": ("union", "y", "q"), "y": ("star", "b"), "q": ("union", "c", "a")}, UndefinedName, name="a")
        self.check({"x": ("union", "y", "q"), "y": ("star", "m"), "q": ("union", "n", "z")}, UndefinedName, name="m")
        # The name itself comes first, and names that it does not need do not matter.
        bench = bench_of("ab", {"x": ("words", []), "y": ("star", "a"), "z": ("star", "y")})
        self.assertEqual(outcome(bench.value, "x"), "ab: none")
        self.assertEqual(outcome(bench.value, "q"), ("UndefinedName", {"name": "q"}))

    def test_undefined_names_come_before_errors(self):
        self.check({"x": ("union", "y", "z"), "y": ("avoid", ["a" * 15])}, UndefinedName, name="z")
        self.check({"x": ("union", "y", "z"), "y": ("words", self.words)}, UndefinedName, name="z")

    def test_the_operation(self):
        self.check({"x": ("avoid", ["a" * 7, "b" * 8])}, TooLarge, limit=14)
        self.check({"x": ("expression", "(a|b)" * 6)}, TooMany, limit=50)
        thick = [("R", "a"), ("R", "b"), ("S", "RRR"), ("T", "SS")]
        self.check({"x": ("grammar", thick, "T")}, TooMany, limit=50)
        self.check({"x": ("grammar", thick + [("T", "TS")], "T")}, TooMany, limit=50)
        self.check({"x": ("meet", "y", "z"), "y": ("words", ["a" * 9]), "z": ("words", ["a"])}, TooLarge, limit=8)
        self.check({"x": ("residual", "z", "y"), "y": ("words", ["a" * 9]), "z": ("words", ["a"])}, TooLarge, limit=8)
        many = ("words", ["aaaaaaa", "bbbbbbb", "abababa", "bababab"])
        self.check({"x": ("meet", "y", "z"), "y": many, "z": ("words", ["a"])}, TooLarge, limit=24)
        self.check({"x": ("residual", "z", "y"), "y": many, "z": ("words", ["a"])}, TooLarge, limit=24)

    def test_twenty_products(self):
        self.assertEqual(len(bench_of("ab", {"x": ("words", self.words[:20])}).value("x").products()), 20)
        self.check({"x": ("words", self.words[:21])}, TooMany, limit=20)
        self.check({"x": ("union", "y", "z"), "y": ("words", self.words[:20]), "z": ("words", self.words[20:21])},
                   TooMany, limit=20)
        self.check({"x": ("expression", "(a|b)" * 5)}, TooMany, limit=20)
        self.check({"x": ("grammar", [("R", "a"), ("R", "b"), ("S", "RRR"), ("T", "SRR")], "T")}, TooMany, limit=20)
        self.check({"x": ("concat", "y", "y"), "y": ("expression", "(a|b)(a|b)(a|b)")}, TooMany, limit=20)
        # The value of an input counts, too, though less remains of it.
        self.check({"x": ("star", "y"), "y": ("words", self.words[:21])}, TooMany, limit=20)

    def test_thirty_factors(self):
        self.assertEqual(len(bench_of("ab", {"x": ("words", ["a" * 30])}).value("x").products()[0]), 30)
        self.check({"x": ("words", ["a" * 31])}, TooLarge, limit=30)
        self.check({"x": ("words", ["b", "a" * 31])}, TooLarge, limit=30)
        self.check({"x": ("concat", "y", "y"), "y": ("words", ["a" * 16])}, TooLarge, limit=30)
        self.check({"x": ("star", "y"), "y": ("words", ["a" * 31])}, TooLarge, limit=30)
        self.check({"x": ("expression", "a" * 31)}, TooLarge, limit=30)
        self.check({"x": ("products", [(("opt", "a"), ("star", "b")) * 16])}, TooLarge, limit=30)
        # Only reduced products count.
        bench = bench_of("ab", {"x": ("products", [(("opt", "a"), ("star", "a")) * 40])})
        self.assertEqual(str(bench.value("x")), "ab: {a}*")

    def test_products_come_before_factors(self):
        longer = [word * 7 for word in self.words[:21]]
        self.assertEqual(len(closure_of_words("ab", longer).products()), 21)
        self.check({"x": ("words", longer)}, TooMany, limit=20)
        self.check({"x": ("words", longer[:20])}, TooLarge, limit=30)

    def test_the_first_error(self):
        fourteen, thirty = ("avoid", ["a" * 15]), ("words", ["a" * 31])
        twenty, fifty = ("words", self.words), ("expression", "(a|b)" * 6)
        rows = [(fourteen, ("TooLarge", 14)), (thirty, ("TooLarge", 30)), (twenty, ("TooMany", 20)), (fifty, ("TooMany", 50))]
        for (one, first), (other, second) in itertools.permutations(rows, 2):
            for kind in ["union", "meet", "concat", "residual"]:
                self.check_first({"x": (kind, "y", "z"), "y": one, "z": other}, first)
                self.check_first({"x": (kind, "z", "y"), "y": one, "z": other}, second)
                self.check_first({"x": (kind, "b", "a"), "b": one, "a": other}, first)
            # All that the first input needs comes before the second input.
            self.check_first({"x": ("union", "y", "z"), "y": ("star", "w"), "w": one, "z": other}, first)
            self.check_first({"x": ("union", "y", "z"), "y": ("union", "v", "w"), "v": ("words", []), "w": one, "z": other}, first)
            self.check_first({"x": ("union", "y", "z"), "y": ("words", []), "z": ("union", "w", "v"), "w": one, "v": other}, first)
            self.check_first({"x": ("union", "y", "z"), "y": ("union", "v", "z"), "v": one, "z": other}, first)
            self.check_first({"x": ("union", "y", "z"), "y": ("union", "z", "v"), "v": one, "z": other}, second)

    def check_first(self, definitions, expected):
        name, fields = outcome(bench_of("ab", definitions).value, "x")
        self.assertEqual((name, fields["limit"]), expected, definitions)

    def test_an_error_changes_nothing(self):
        bench = bench_of("ab", {"x": ("star", "y"), "y": ("words", ["a" * 31])})
        before = snapshot(bench)
        for _ in range(3):
            self.assertEqual(raised(TooLarge, bench.value, "x"), {"limit": 30})
        self.assertEqual(snapshot(bench), before)
        bench.define("y", ("words", ["a" * 30]))
        self.assertEqual(str(bench.value("x")), "ab: {a}*")
        bench.undo(count=3)
        self.assertEqual(bench.names(), [])


class TestEqual(unittest.TestCase):

    def test_definitions_count(self):
        one = bench_of("ab", {"x": ("words", ["a"]), "y": ("star", "x")})
        other = bench_of("ab", {"y": ("star", "x"), "x": ("words", ("a",))})
        self.assertTrue(one == other)
        self.assertFalse(one != other)
        other.define("x", ("words", ["a", "a"]))
        self.assertFalse(one == other)
        self.assertTrue(one != other)
        other.undo()
        self.assertTrue(one == other)
        other.remove("y")
        self.assertFalse(one == other)
        other.define("z", ("star", "x"))
        self.assertFalse(one == other)

    def test_the_same_value_is_not_enough(self):
        for one, other in [(("words", ["a"]), ("expression", "a")), (("words", ["a", "b"]), ("words", ["b", "a"])),
                           (("union", "x", "y"), ("union", "y", "x")), (("words", []), ("avoid", []))]:
            self.assertFalse(bench_of("ab", {"z": one}) == bench_of("ab", {"z": other}))

    def test_the_alphabet_counts(self):
        for one, other in itertools.permutations(["a", "ab", "abc", "ac"], 2):
            self.assertFalse(Workbench(one) == Workbench(other))
            definitions = {"x": ("words", ["a"])}
            self.assertFalse(bench_of(one, definitions) == bench_of(other, definitions))

    def test_histories_do_not_count(self):
        one, other = bench_of("ab", {"x": ("words", ["a"])}), Workbench("ab")
        self.assertFalse(one == other)
        for _ in range(3):
            other.define("x", ("star", "y"))
        other.define("x", ("words", ["a"]))
        self.assertTrue(one == other)
        one.define("q", ("words", []))
        one.undo()
        self.assertTrue(one == other)
        one.undo()
        self.assertTrue(one == Workbench("ab"))

    def test_other_kinds(self):
        for bench in [Workbench("ab"), bench_of("ab", {"x": ("words", ["a"])})]:
            for thing in NOT_TEXTS + ODD_TEXTS + ["ab", {}, {"x": ("words", ("a",))}, ("ab", {}), Grammar("ab", []), Language("ab", [])]:
                if not isinstance(thing, Workbench):
                    self.assertFalse(bench == thing)
                    self.assertFalse(thing == bench)
                    self.assertTrue(bench != thing)
            self.assertIs(bench == bench, True)


if __name__ == "__main__":
    unittest.main()
