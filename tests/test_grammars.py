"""Points [2] and [19]: grammars, which ones are refused, and when two are equal."""

import itertools
import random
import unittest

from downwords.errors import InvalidAlphabet, InvalidProduction
from downwords.grammars import Grammar
from downwords.languages import Language
from downwords.words import is_alphabet
from grammar_support import some_grammars
from support import NOT_TEXTS, ODD_TEXTS, raised

WRONG_PRODUCTIONS = NOT_TEXTS + ODD_TEXTS + ["", "a", "S", "Sa", "S -> a", "ab"] + [
    ("S",), ("S", "a", "b"), ("S", "c"), ("S", "abc"), ("S", "aaaa"), ("S", "aSTa"), ("S", " "), ("S", "a "), ("S", "-"),
    ("s", "a"), ("a", "a"), ("", "a"), ("ST", "a"), ("SS", "a"), ("0", "a"), ("[", "a"), ("@", "a"), ("S", "a@"),
    ("S", "["), ("S", "a0"), ("S", "a\n"), ("S\n", "a"), ("S", None), (None, "a"), ("S", ["a"]), ("S", ("a",)),
    ("S", ["a", "b"]), (["S"], "a"), (("S",), "a"), ["S", "a"], {"S": "a"}, ("S", 1), (1, "a"), (True, "a"),
    ("S", True), ("S", {}), ("S", Language("ab", [])), (Language("ab", []), "a"), ("S", Grammar("ab", [])),
    (Grammar("ab", []), ""), (("S", "a"),), [("S", "a")],
]
WRONG_PRODUCTIONS = [thing for thing in WRONG_PRODUCTIONS if thing != ("S", "a")]

RIGHT = [("S", "aSb"), ("S", ""), ("T", "UVW"), ("U", "S"), ("Z", "b"), ("Z", "b")]


class TestMaking(unittest.TestCase):

    def test_example(self):
        productions = [("S", "aSb"), ("S", ""), ("S", "Tx")]
        self.assertEqual(raised(InvalidProduction, Grammar, "ab", productions), {"index": 2})

    def test_the_alphabet_comes_first(self):
        for alphabet in NOT_TEXTS + ODD_TEXTS + ["", "ba", "aa", "abcd", "S"]:
            self.assertFalse(is_alphabet(alphabet))
            for productions in [[], RIGHT, None, "ab", [None], {}, alphabet, [("S", "a")] * 17]:
                self.assertEqual(raised(InvalidAlphabet, Grammar, alphabet, productions), {})

    def test_neither_a_list_nor_a_tuple(self):
        for productions in NOT_TEXTS + ODD_TEXTS + ["", "a", "S", Grammar("ab", RIGHT), {"S": "a"}]:
            if not isinstance(productions, (list, tuple)):
                self.assertEqual(raised(InvalidProduction, Grammar, "ab", productions), {"index": None})

    def test_the_same_object_for_both(self):
        self.assertEqual(raised(InvalidProduction, Grammar, "ab", "ab"), {"index": None})

    def test_the_first_wrong_index(self):
        for wrong in WRONG_PRODUCTIONS:
            for at in range(len(RIGHT) + 1):
                for rest in [RIGHT[at:], [None] + RIGHT[at:], RIGHT[at:] + [wrong]]:
                    productions = RIGHT[:at] + [wrong] + rest
                    self.assertEqual(raised(InvalidProduction, Grammar, "ab", productions), {"index": at}, wrong)
                    self.assertEqual(raised(InvalidProduction, Grammar, "ab", tuple(productions)), {"index": at})

    def test_letters_of_the_alphabet_only(self):
        for alphabet, letter in itertools.product(["a", "ab", "abc", "bx", "xyz"], "abcdxyz"):
            found = raised(InvalidProduction, Grammar, alphabet, [("S", letter)])
            self.assertEqual(found, None if letter in alphabet else {"index": 0})

    def test_at_most_three_items(self):
        for size in range(6):
            for items in ["a" * size, "S" * size, ("Ta" * size)[:size]]:
                found = raised(InvalidProduction, Grammar, "ab", [("S", "a"), ("S", items)])
                self.assertEqual(found, None if size <= 3 else {"index": 1})

    def test_all_uppercase_letters(self):
        for symbol in "ABCDEFGHIJKLMNOPQRSTUVWXYZ":
            self.assertEqual(Grammar("ab", [(symbol, "")]).symbols(), [symbol])
            self.assertEqual(Grammar("ab", [("M", symbol)]).symbols(), sorted({"M", symbol}))

    def test_sixteen_productions(self):
        for many in [15, 16]:
            self.assertEqual(len(Grammar("ab", [("S", "a")] * many).productions()), many)
        for many in [17, 18, 40]:
            self.assertEqual(raised(InvalidProduction, Grammar, "ab", [("S", "a")] * many), {"index": 16})
        self.assertEqual(raised(InvalidProduction, Grammar, "ab", [("S", "a")] * 16 + [None]), {"index": 16})
        self.assertEqual(raised(InvalidProduction, Grammar, "ab", [("S", "a")] * 15 + [None] * 3), {"index": 15})

    def test_six_symbols(self):
        self.assertEqual(Grammar("ab", [("A", "BCD"), ("E", "aFb")]).symbols(), list("ABCDEF"))
        self.assertEqual(raised(InvalidProduction, Grammar, "ab", [("A", "BCD"), ("E", "FGa")]), {"index": 1})
        self.assertEqual(raised(InvalidProduction, Grammar, "ab", [("A", "BCD"), ("G", "EF")]), {"index": 1})
        for order in [list("ABCDEFG"), list("GFEDCBA"), list("ZQAMBXY")]:
            productions = [(symbol, "") for symbol in order]
            self.assertEqual(Grammar("ab", productions[:6]).symbols(), sorted(order[:6]))
            self.assertEqual(raised(InvalidProduction, Grammar, "ab", productions), {"index": 6})
            many = productions[:6] * 2 + [("A", "a"), ("A", order[6])]
            if "A" in order[:6]:
                self.assertEqual(raised(InvalidProduction, Grammar, "ab", many), {"index": 13})

    def test_drawn_limits(self):
        source = random.Random(21)
        seen = set()
        for _ in range(300):
            symbols = "ABCDEFGH"[:source.randrange(4, 9)]
            rows = [(source.choice(symbols), "".join(source.choice(symbols + "ab") for _ in range(source.randrange(4))))
                    for _ in range(source.randrange(0, 20))]
            for _ in range(source.choice([0, 0, 1])):
                rows.insert(source.randrange(len(rows) + 1), source.choice(WRONG_PRODUCTIONS))
            expected = None
            for index, row in enumerate(rows):
                if is_wrong(row) or index >= 16 or number_of_symbols(rows[:index + 1]) > 6:
                    expected = {"index": index}
                    break
            self.assertEqual(raised(InvalidProduction, Grammar, "ab", rows), expected, rows)
            seen.add(expected is None)
        self.assertEqual(seen, {True, False})


def is_wrong(row):
    """Whether a drawn row is one from the list of wrong ones."""
    return any(row is wrong for wrong in WRONG_PRODUCTIONS)


def number_of_symbols(rows):
    return len({sign for symbol, items in rows for sign in symbol + items if sign.isupper()})


class TestMethods(unittest.TestCase):

    def test_lists_and_tuples(self):
        self.assertEqual(Grammar("ab", RIGHT), Grammar("ab", tuple(RIGHT)))
        self.assertEqual(Grammar("ab", tuple(RIGHT)).productions(), RIGHT)
        self.assertIs(type(Grammar("ab", tuple(RIGHT)).productions()), list)

    def test_what_it_has(self):
        grammar = Grammar("ab", RIGHT)
        self.assertEqual(grammar.alphabet(), "ab")
        self.assertEqual(grammar.productions(), RIGHT)
        self.assertEqual(grammar.symbols(), ["S", "T", "U", "V", "W", "Z"])
        for grammar in some_grammars("abc", 40, 22):
            used = "".join(symbol + items for symbol, items in grammar.productions())
            self.assertEqual(grammar.symbols(), sorted({sign for sign in used if sign.isupper()}))

    def test_the_empty_grammar(self):
        for productions in [[], ()]:
            grammar = Grammar("abc", productions)
            self.assertEqual([grammar.alphabet(), grammar.productions(), grammar.symbols()], ["abc", [], []])

    def test_lists_are_new(self):
        productions = list(RIGHT)
        grammar = Grammar("ab", productions)
        productions.append(("S", "b"))
        productions[0] = None
        self.assertEqual(grammar.productions(), RIGHT)
        grammar.productions().clear()
        grammar.productions().append(("S", "b"))
        grammar.symbols().append("A")
        grammar.symbols()[0] = None
        self.assertEqual(grammar.productions(), RIGHT)
        self.assertEqual(grammar.symbols(), ["S", "T", "U", "V", "W", "Z"])
        self.assertEqual(grammar, Grammar("ab", RIGHT))
        self.assertIsNot(grammar.productions(), grammar.productions())
        self.assertIsNot(grammar.symbols(), grammar.symbols())

    def test_arguments_stay(self):
        productions = list(RIGHT)
        Grammar("ab", productions)
        self.assertEqual(productions, RIGHT)


class TestEqual(unittest.TestCase):

    def test_equal(self):
        for grammar in some_grammars("ab", 20, 23):
            self.assertTrue(grammar == Grammar("ab", grammar.productions()))
            self.assertFalse(grammar != Grammar("ab", grammar.productions()))

    def test_order_counts(self):
        self.assertFalse(Grammar("ab", RIGHT) == Grammar("ab", RIGHT[::-1]))
        self.assertFalse(Grammar("ab", RIGHT) == Grammar("ab", RIGHT[:-1]))
        self.assertTrue(Grammar("ab", RIGHT) != Grammar("ab", [("S", "aSa")] + RIGHT[1:]))

    def test_the_alphabet_counts(self):
        for productions in [[], [("S", "")], [("S", "a")]]:
            for one, other in itertools.permutations(["a", "ab", "abc", "ac"], 2):
                self.assertFalse(Grammar(one, productions) == Grammar(other, productions))

    def test_other_kinds(self):
        for grammar in [Grammar("ab", []), Grammar("ab", [("S", "a")])]:
            things = NOT_TEXTS + ODD_TEXTS + ["ab", grammar.productions(), ("ab", grammar.productions())]
            for thing in things + [Language("ab", [])]:
                if not isinstance(thing, Grammar):
                    self.assertFalse(grammar == thing)
                    self.assertFalse(thing == grammar)
                    self.assertTrue(grammar != thing)
            self.assertIs(grammar == grammar, True)


if __name__ == "__main__":
    unittest.main()
