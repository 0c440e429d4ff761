"""Points [20] and [21]: ranks, components and their kinds."""

import itertools
import random
import unittest

from downwords.analysis import component_kinds, components, ranks
from downwords.grammars import Grammar
from grammar_support import (
    layered_grammars, renamed, slow_components, slow_kinds, slow_ranks, some_grammars,
)


def drawn_grammars():
    """Drawn grammars of many shapes."""
    found = []
    for seed, share in enumerate([0.2, 0.4, 0.6, 0.8]):
        found += some_grammars("ab", 60, 30 + seed, share=share)
        found += some_grammars("abc", 20, 40 + seed, most=6, share=share)
    return found + layered_grammars("ab", 60, 50)


class TestExample(unittest.TestCase):

    def test_example(self):
        grammar = Grammar("ab", [("S", "aSb"), ("S", "T"), ("T", "TT"), ("T", "a"), ("U", "U")])
        self.assertEqual(ranks(grammar), {"S": 2, "T": 1})
        self.assertEqual(components(grammar), [("T",), ("S",)])
        self.assertEqual(component_kinds(grammar), ["branching", "linear"])


class TestRanks(unittest.TestCase):

    def test_against_a_search_by_height(self):
        seen = set()
        for grammar in drawn_grammars():
            found = ranks(grammar)
            self.assertEqual(found, slow_ranks(grammar), grammar.productions())
            self.assertEqual(list(found), sorted(found))
            seen |= set(found.values())
        self.assertLessEqual({1, 2, 3, 4}, seen)

    def test_chains(self):
        for many in range(1, 7):
            for symbols in [tuple("ABCDEF"), tuple("FEDCBA"), tuple("SAZBYC")]:
                symbols = symbols[:many]
                steps = [(one, "a" + other) for one, other in zip(symbols, symbols[1:])] + [(symbols[-1], "b")]
                for productions in [steps, steps[::-1]]:
                    found = ranks(Grammar("ab", productions))
                    self.assertEqual(found, {symbol: many - at for at, symbol in enumerate(symbols)})
                    self.assertEqual(list(found), sorted(symbols))

    def test_the_least_rank(self):
        grammar = Grammar("ab", [("S", "T"), ("T", "U"), ("U", "a"), ("S", "UU"), ("S", "SSS")])
        self.assertEqual(ranks(grammar), {"S": 2, "T": 2, "U": 1})
        grammar = Grammar("ab", [("S", "T"), ("T", "U"), ("U", "a"), ("S", "")])
        self.assertEqual(ranks(grammar)["S"], 1)

    def test_symbols_that_derive_nothing(self):
        self.assertEqual(ranks(Grammar("ab", [])), {})
        self.assertEqual(ranks(Grammar("ab", [("S", "S")])), {})
        self.assertEqual(ranks(Grammar("ab", [("S", "aT"), ("T", "bS")])), {})
        self.assertEqual(ranks(Grammar("ab", [("S", "U"), ("T", "a")])), {"T": 1})
        self.assertEqual(ranks(Grammar("ab", [("S", "aTU"), ("T", "a"), ("U", "TU")])), {"T": 1})

    def test_new_with_every_call(self):
        grammar = Grammar("ab", [("S", "a")])
        ranks(grammar).clear()
        self.assertEqual(ranks(grammar), {"S": 1})
        components(grammar).clear()
        self.assertEqual(components(grammar), [("S",)])
        component_kinds(grammar).clear()
        self.assertEqual(component_kinds(grammar), ["single"])


class TestComponents(unittest.TestCase):

    def test_against_all_pairs(self):
        seen, sizes = set(), set()
        for grammar in drawn_grammars():
            found = components(grammar)
            self.assertEqual(found, slow_components(grammar), grammar.productions())
            self.assertEqual(component_kinds(grammar), slow_kinds(grammar), grammar.productions())
            seen |= set(component_kinds(grammar))
            sizes |= {len(component) for component in found}
        self.assertEqual(seen, {"single", "linear", "branching"})
        self.assertLessEqual({1, 2, 3}, sizes)

    def test_kinds_of_values(self):
        grammar = Grammar("ab", [("S", "aT"), ("T", "S"), ("T", "b")])
        self.assertIs(type(components(grammar)), list)
        self.assertIs(type(components(grammar)[0]), tuple)
        self.assertEqual(components(grammar), [("S", "T")])

    def test_order(self):
        # Without uses, the symbols ascend; a use brings the used one to the front.
        self.assertEqual(components(Grammar("ab", [("C", ""), ("A", ""), ("B", "")])), [("A",), ("B",), ("C",)])
        self.assertEqual(components(Grammar("ab", [("C", ""), ("A", "C"), ("B", "")])), [("B",), ("C",), ("A",)])
        # Behind C, the least one that may come next is A again, not B, which was first before.
        grammar = Grammar("ab", [("A", "C"), ("C", ""), ("D", ""), ("B", "D")])
        self.assertEqual(components(grammar), [("C",), ("A",), ("D",), ("B",)])
        # The component of B and E has the least symbol B, though it uses D.
        grammar = Grammar("ab", [("B", "E"), ("E", "BD"), ("E", ""), ("D", ""), ("C", ""), ("A", "B")])
        self.assertEqual(components(grammar), [("C",), ("D",), ("B", "E"), ("A",)])

    def test_cycles(self):
        for many in range(1, 7):
            for order in itertools.islice(itertools.permutations("ABCDEF"[:many]), 0, None, 7):
                steps = [(one, "a" + other) for one, other in zip(order, order[1:] + order[:1])]
                grammar = Grammar("ab", steps + [(order[0], "b")])
                self.assertEqual(components(grammar), [tuple(sorted(order))])
                self.assertEqual(component_kinds(grammar), ["linear"])
                self.assertEqual(components(Grammar("ab", steps)), [])
                grammar = Grammar("ab", steps + [(order[0], "b"), (order[-1], order[0] * 2)])
                self.assertEqual(component_kinds(grammar), ["branching"])
                grammar = Grammar("ab", steps[:-1] + [(order[-1], "b")])
                self.assertEqual(component_kinds(grammar), ["single"] * many)

    def test_two_items_of_one_component(self):
        base = [("S", "a"), ("T", "S"), ("S", "T"), ("U", "b"), ("S", "UU")]
        self.assertEqual(component_kinds(Grammar("ab", base)), ["linear", "single"][::-1])
        for items in ["ST", "TS", "SS", "TT", "SaT", "TbT", "SUT"]:
            for symbol in "ST":
                grammar = Grammar("ab", base + [(symbol, items)])
                self.assertEqual(components(grammar), [("U",), ("S", "T")])
                self.assertEqual(component_kinds(grammar), ["single", "branching"])
            grammar = Grammar("ab", base + [("U", items)])
            self.assertEqual(component_kinds(grammar), ["branching"])
            # A symbol outside of the component does not make it branching.
            grammar = Grammar("ab", base + [("V", items)])
            self.assertEqual(component_kinds(grammar), ["single", "linear", "single"])

    def test_uses_itself(self):
        self.assertEqual(component_kinds(Grammar("ab", [("S", "S"), ("S", "")])), ["linear"])
        self.assertEqual(component_kinds(Grammar("ab", [("S", "SS"), ("S", "")])), ["branching"])
        self.assertEqual(component_kinds(Grammar("ab", [("S", "")])), ["single"])

    def test_productions_that_derive_nothing(self):
        grammar = Grammar("ab", [("S", "a"), ("S", "SU"), ("S", "SSU"), ("T", "S"), ("S", "TTU"), ("U", "U")])
        self.assertEqual(components(grammar), [("S",), ("T",)])
        self.assertEqual(component_kinds(grammar), ["single", "single"])


class TestChangedGrammars(unittest.TestCase):

    def check_same(self, grammar, other):
        self.assertEqual(ranks(grammar), ranks(other))
        self.assertEqual(components(grammar), components(other))
        self.assertEqual(component_kinds(grammar), component_kinds(other))

    def test_order_twice_and_backwards(self):
        source = random.Random(60)
        for grammar in some_grammars("ab", 80, 61, most=15, share=0.4):
            productions = grammar.productions()
            shuffled = source.sample(productions, len(productions))
            self.check_same(grammar, Grammar("ab", shuffled))
            self.check_same(grammar, Grammar("ab", [(symbol, items[::-1]) for symbol, items in productions]))
            if productions:
                self.check_same(grammar, Grammar("ab", productions + [source.choice(productions)]))

    def test_a_production_that_derives_nothing(self):
        source = random.Random(62)
        for grammar in some_grammars("ab", 80, 63, most=15, share=0.4):
            if 0 < len(grammar.symbols()) < 6:
                own = source.choice(grammar.symbols())
                for items in ["Q", "aQ" + own, own + own + "Q"]:
                    self.check_same(grammar, Grammar("ab", grammar.productions() + [(own, items)]))

    def test_renamed(self):
        source = random.Random(64)
        for grammar in some_grammars("ab", 80, 65, share=0.4):
            symbols = grammar.symbols()
            names = dict(zip(symbols, source.sample("ABCDEFGHIJKLMNOPQRSTUVWXYZ", len(symbols))))
            other = renamed(grammar, names)
            self.assertEqual(ranks(other), {names[symbol]: rank for symbol, rank in ranks(grammar).items()})
            expected = {tuple(sorted(names[symbol] for symbol in component)): kind
                        for component, kind in zip(components(grammar), component_kinds(grammar))}
            self.assertEqual(dict(zip(components(other), component_kinds(other))), expected)
            # Names in the same order keep the order of the components.
            ascending = dict(zip(symbols, sorted(names.values())))
            expected = [tuple(ascending[symbol] for symbol in component) for component in components(grammar)]
            self.assertEqual(components(renamed(grammar, ascending)), expected)


if __name__ == "__main__":
    unittest.main()
