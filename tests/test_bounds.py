"""Points [3] and [24]: tables, upper bounds, and the table of the closures, which is the least one."""

import itertools
import random
import unittest

from downwords.bounds import closure_table, is_upper_bound
from downwords.closures import closure
from downwords.errors import TooMany
from downwords.grammars import Grammar
from downwords.languages import Language, is_subset, parse_language
from downwords.products import is_included, latest_start
from grammar_support import layered_grammars, slow_is_upper_bound, some_grammars, table_or_none
from support import (
    NOT_TEXTS, ODD_TEXTS, all_products, all_words, edge_languages, raised, some_languages, some_products,
)


def word_that_leaves(grammar, table, most):
    """A short word of a production that is not in the entry of its symbol, or None."""
    words = {symbol: [word for word in all_words(grammar.alphabet(), most) if table[symbol].contains(word)]
             for symbol in grammar.symbols()}
    for symbol, items in grammar.productions():
        rows = [words[item] if item.isupper() else ["", item] for item in items]
        for row in itertools.product(*rows):
            if not table[symbol].contains("".join(row)):
                return "".join(row)
    return None


def drawn_grammars(seed, many=60):
    return some_grammars("ab", many, seed, most=8) + layered_grammars("abc", many // 2, seed)


class TestExample(unittest.TestCase):

    def test_example(self):
        grammar = Grammar("ab", [("S", "aSb"), ("S", "")])
        self.assertEqual(str(closure_table(grammar)["S"]), "ab: {a}*{b}*")
        self.assertIs(is_upper_bound(grammar, {"S": parse_language("ab: {a}*{b}*")}), True)
        self.assertIs(is_upper_bound(grammar, {"S": parse_language("ab: a?b?")}), False)


class TestClosureTable(unittest.TestCase):

    def test_all_symbols_ascending(self):
        for grammar in drawn_grammars(100, 120):
            errors = [raised(TooMany, closure, grammar, symbol) for symbol in grammar.symbols()]
            if any(errors):
                self.assertEqual(raised(TooMany, closure_table, grammar), {"limit": 50})
                continue
            table = closure_table(grammar)
            self.assertEqual(list(table), grammar.symbols())
            for symbol in grammar.symbols():
                self.assertEqual(table[symbol], closure(grammar, symbol))
        self.assertEqual(closure_table(Grammar("ab", [])), {})

    def test_too_many(self):
        thick = [("R", "a"), ("R", "b"), ("S", "RR"), ("T", "SS"), ("U", "TS")]
        self.assertEqual(raised(TooMany, closure_table, Grammar("ab", thick)), {"limit": 50})
        self.assertEqual(raised(TooMany, closure_table, Grammar("ab", thick + [("V", "a")])), {"limit": 50})
        self.assertIsNone(raised(TooMany, closure_table, Grammar("ab", thick[:4])))
        self.assertIsNone(raised(TooMany, closure_table, Grammar("ab", thick + [("U", "UU")])))
        self.assertIsNone(raised(TooMany, closure_table, Grammar("ab", thick[:4] + [("U", "TSV")])))

    def test_new_with_every_call(self):
        grammar = Grammar("ab", [("S", "aSb"), ("S", "T")])
        table = closure_table(grammar)
        table["S"] = None
        table["U"] = 1
        del table["T"]
        self.assertEqual(list(closure_table(grammar)), ["S", "T"])
        self.assertEqual(str(closure_table(grammar)["S"]), "ab: none")


class TestUpperBounds(unittest.TestCase):

    def check_table(self, grammar, table):
        expected = slow_is_upper_bound(grammar, table)
        found = is_upper_bound(grammar, table)
        self.assertIs(found, expected, (grammar.productions(), {key: str(table[key]) for key in table}))
        if found:
            least = table_or_none(grammar)
            if least is not None:
                self.assertTrue(all(is_subset(least[symbol], table[symbol]) for symbol in least))
        return found

    def test_closures(self):
        for grammar in drawn_grammars(101):
            table = table_or_none(grammar)
            if table is not None:
                self.assertTrue(self.check_table(grammar, table))
                self.assertIsNone(word_that_leaves(grammar, table, 2))

    def test_a_product_left_out_or_narrowed(self):
        source = random.Random(102)
        for grammar in drawn_grammars(103):
            table = table_or_none(grammar)
            for symbol in grammar.symbols() if table is not None else []:
                products = table[symbol].products()
                for at, product in enumerate(products):
                    less = products[:at] + products[at + 1:]
                    self.assertFalse(self.check_table(grammar, {**table, symbol: Language(grammar.alphabet(), less)}))
                    if product:
                        place = source.randrange(len(product))
                        less = less + [product[:place] + product[place + 1:]]
                        narrower = Language(grammar.alphabet(), less)
                        self.assertFalse(self.check_table(grammar, {**table, symbol: narrower}))

    def test_a_product_added(self):
        source = random.Random(104)
        seen = set()
        for grammar in drawn_grammars(105):
            table = table_or_none(grammar)
            for symbol in grammar.symbols() if table is not None else []:
                for size in [0, 1, 1, 2, 3]:
                    more = some_products(grammar.alphabet(), size, 1, source.randrange(10 ** 6))
                    larger = Language(grammar.alphabet(), table[symbol].products() + more)
                    if len(larger.products()) <= 50:
                        seen.add(self.check_table(grammar, {**table, symbol: larger}))
        self.assertEqual(seen, {True, False})

    def test_drawn_tables(self):
        source = random.Random(106)
        seen = {True: 0, False: 0}
        for alphabet in ["a", "ab", "abc"]:
            pool = edge_languages(alphabet) + some_languages(alphabet, (2, 1, 3), 20, 107)
            pool += [Language(alphabet, [(("star", alphabet),)])] * 10
            for grammar in some_grammars(alphabet, 100, 108, most=5):
                for _ in range(4):
                    table = {symbol: source.choice(pool) for symbol in grammar.symbols()}
                    if grammar.productions():
                        seen[self.check_table(grammar, table)] += 1
        self.assertGreater(min(seen.values()), 50, seen)

    def test_all_full(self):
        for grammar in drawn_grammars(109):
            full = Language(grammar.alphabet(), [(("star", grammar.alphabet()),)])
            self.assertTrue(is_upper_bound(grammar, {symbol: full for symbol in grammar.symbols()}))

    def test_productions_that_derive_nothing_count(self):
        grammar = Grammar("ab", [("S", "aT"), ("T", "bT")])
        none, letter = Language("ab", []), parse_language("ab: a?")
        self.assertTrue(is_upper_bound(grammar, {"S": none, "T": none}))
        self.assertFalse(is_upper_bound(grammar, {"S": none, "T": letter}))
        self.assertFalse(is_upper_bound(grammar, {"S": none, "T": parse_language("ab: {b}*")}))
        self.assertTrue(is_upper_bound(grammar, {"S": parse_language("ab: a?{b}*"), "T": parse_language("ab: {b}*")}))

    def test_empty_items(self):
        grammar = Grammar("ab", [("S", "")])
        self.assertFalse(is_upper_bound(grammar, {"S": Language("ab", [])}))
        self.assertTrue(is_upper_bound(grammar, {"S": Language("ab", [()])}))
        self.assertTrue(is_upper_bound(Grammar("ab", []), {}))

    def test_where_parts_meet(self):
        # A star of the larger product may be shared by two items that are next to each other.
        rows = [
            ("SS", "ab: {a}*", "ab: {a}*", True), ("TT", "ab: a?b?", "ab: a?b?a?b?", True), ("TT", "ab: a?b?", "ab: a?b?", False),
            ("TT", "ab: a?b?", "ab: {a}*b?{a}*b?", True), ("TT", "ab: a?b?", "ab: {ab}*", True),
            ("TT", "ab: {a}*b?", "ab: {a}*b?{a}*b?", True), ("TT", "ab: {a}*b?", "ab: {a}*b?a?b?", False),
            ("TT", "ab: b?{a}*", "ab: b?{a}*b?{a}*", True), ("TTT", "ab: a? + b?", "ab: {a}*{b}* + {b}*{a}*", False),
            ("TT", "ab: a? + b?", "ab: {a}*{b}* + {b}*{a}*", True), ("TT", "ab: a? + b?", "ab: a?b?a? + b?b?", True),
        ]
        for items, one, other, expected in rows:
            one, other = parse_language(one), parse_language(other)
            table = {"S": other} if items == "SS" else {"S": other, "T": one}
            self.assertIs(is_upper_bound(Grammar("ab", [("S", items)]), table), expected, (items, str(other)))

    def test_latest_start(self):
        for product in all_products("ab", 2):
            for other in all_products("ab", 3):
                starts = [at for at in range(len(other) + 1) if is_included(product, other[at:])]
                self.assertEqual(latest_start(product, other), max(starts, default=None), (product, other))


class TestNoTables(unittest.TestCase):

    grammar = Grammar("ab", [("S", "aT"), ("T", "b")])
    full = Language("ab", [(("star", "ab"),)])

    def test_any_object(self):
        for thing in NOT_TEXTS + ODD_TEXTS + ["", "ST", self.full, [self.full, self.full], ("S", "T"), self.grammar]:
            self.assertIs(is_upper_bound(self.grammar, thing), False)
        for thing in NOT_TEXTS + ODD_TEXTS:
            self.assertIs(is_upper_bound(Grammar("ab", []), thing), thing == {} and isinstance(thing, dict))

    def test_keys(self):
        full = self.full
        tables = [
            {}, {"S": full}, {"T": full}, {"S": full, "T": full, "U": full}, {"S": full, "U": full}, {"s": full, "t": full},
            {"S": full, "T": full, None: full}, {"S": full, None: full}, {"S": full, ("T",): full}, {0: full, 1: full},
            {"S": full, "T": full, 0: full}, {"ST": full, "T": full}, {True: full, "T": full}, {"S": full, "T ": full},
        ]
        for table in tables:
            self.assertIs(is_upper_bound(self.grammar, table), False, list(table))
        self.assertIs(is_upper_bound(self.grammar, {"T": full, "S": full}), True)

    def test_entries(self):
        wrong = NOT_TEXTS + ODD_TEXTS + ["ab: {ab}*", self.full.products(), Language("a", []), Language("abc", [()]),
                                         Language("abc", [(("star", "abc"),)]), Language("a", [(("star", "a"),)])]
        for thing in wrong:
            if not (isinstance(thing, Language) and thing.alphabet() == "ab"):
                self.assertIs(is_upper_bound(self.grammar, {"S": thing, "T": self.full}), False)
                self.assertIs(is_upper_bound(self.grammar, {"S": self.full, "T": thing}), False)

    def test_fifty_products(self):
        words = [word for word in all_words("abc", 4) if len(word) == 4]
        for many in [49, 50, 51, 60]:
            entry = Language("abc", [tuple(("opt", letter) for letter in word) for word in words[:many]])
            self.assertEqual(len(entry.products()), many)
            full = Language("abc", [(("star", "abc"),)])
            for grammar in [Grammar("abc", [("S", "TT")]), Grammar("abc", [("S", "aTU"), ("S", "TTT")])]:
                table = {symbol: entry if symbol == "T" else full for symbol in grammar.symbols()}
                self.assertIs(is_upper_bound(grammar, table), many <= 50)
            self.assertIs(is_upper_bound(Grammar("abc", [("T", "aab")]), {"T": entry}), many <= 50)
            self.assertIs(is_upper_bound(Grammar("abc", [("T", "TT")]), {"T": entry}), False)

    def test_large_tables(self):
        words = [word for word in all_words("abc", 4) if len(word) == 4][:50]
        entry = Language("abc", [tuple(("opt", letter) for letter in word) for word in words])
        others = [(("star", "ab"),) + (("star", "c"), ("star", "ab")) * at for at in range(10)]
        for products in [others, [(("star", "abc"),)], [(("opt", "a"),) * 12]]:
            grammar = Grammar("abc", [("S", "TTT")])
            table = {"S": Language("abc", products), "T": entry}
            expected = all(any(all_fit(row, other) for other in table["S"].products())
                           for row in itertools.product(entry.products()[::7], repeat=3))
            self.assertIs(is_upper_bound(grammar, table), expected)

    def test_arguments_stay(self):
        table = {"T": self.full, "S": self.full}
        is_upper_bound(self.grammar, table)
        self.assertEqual(list(table), ["T", "S"])


def all_fit(row, other):
    return is_included(sum(row, ()), other)


if __name__ == "__main__":
    unittest.main()
