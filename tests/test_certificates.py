"""Points [3], [25] and [26]: certificates for and against words, and the checker."""

import random
import unittest

from downwords.bounds import closure_table
from downwords.certificates import certificate, is_certificate
from downwords.closures import closure
from downwords.errors import TooLarge, TooMany, UnknownSymbol
from downwords.excluded import avoiding, excluded_words
from downwords.grammars import Grammar
from downwords.languages import Language, parse_language
from grammar_support import (
    closed_words, layered_grammars, slow_is_upper_bound, slow_ranks, some_grammars, table_or_none,
)
from support import DEEP, NOT_TEXTS, ODD_TEXTS, all_words, raised


def kept_letters(grammar, symbol, tree, deleted):
    """The letters that a pruned tree keeps, or None if it is none; deleted symbols are put into the list."""
    if type(tree) is not tuple or len(tree) != 2:
        return None
    index, children = tree
    if type(index) is not int or type(children) is not tuple or index not in range(len(grammar.productions())):
        return None
    own, items = grammar.productions()[index]
    if own != symbol or len(items) != len(children):
        return None
    word = ""
    for item, child in zip(items, children):
        if child is None:
            deleted += [item] if item.isupper() else []
            continue
        part = kept_letters(grammar, item, child, deleted) if item.isupper() else child
        if type(part) is not str or not item.isupper() and part != item:
            return None
        word += part
    return word


def slow_are_ranks(grammar, ranks, deleted):
    if type(ranks) is not dict or not set(deleted) <= set(ranks):
        return False
    if any(key not in grammar.symbols() or type(rank) is not int for key, rank in ranks.items()):
        return False
    for key, rank in ranks.items():
        lower = {other for other in ranks if ranks[other] < rank}
        if not any(own == key and {item for item in items if item.isupper()} <= lower
                   for own, items in grammar.productions()):
            return False
    return True


def slow_is_certificate(grammar, symbol, word, thing):
    """Check an object as the points [24] to [26] say it."""
    if type(thing) is not tuple or len(thing) not in (2, 3):
        return False
    if len(thing) == 3:
        deleted = []
        kept = kept_letters(grammar, symbol, thing[1], deleted)
        return thing[0] == "in" and kept == word and slow_are_ranks(grammar, thing[2], deleted)
    table = thing[1]
    if thing[0] != "out" or type(table) is not dict or sorted(map(str, table)) != grammar.symbols():
        return False
    for entry in table.values():
        if type(entry) is not Language or entry.alphabet() != grammar.alphabet() or len(entry.products()) > 50:
            return False
    return slow_is_upper_bound(grammar, table) and not table[symbol].contains(word)


class TestExamples(unittest.TestCase):

    def test_in(self):
        grammar = Grammar("ab", [("S", "aT"), ("T", "b")])
        found = certificate(grammar, "S", "b")
        self.assertEqual([found[0], is_certificate(grammar, "S", "b", found)], ["in", True])
        self.assertIs(is_certificate(grammar, "S", "a", ("in", (0, ("a", None)), {"T": 1})), True)
        self.assertIs(is_certificate(grammar, "S", "a", ("in", (0, ("a", None)), {})), False)

    def test_out(self):
        grammar = Grammar("ab", [("S", "aS"), ("S", "b")])
        self.assertEqual(certificate(grammar, "S", "ba")[0], "out")
        self.assertIs(is_certificate(grammar, "S", "ba", ("out", {"S": parse_language("ab: {a}*b?")})), True)


class TestBoth(unittest.TestCase):

    def check_word(self, grammar, symbol, word, inside, over=False):
        """A certificate must have the form that is expected, and both checkers must accept it."""
        if over and not inside:
            self.assertEqual(raised(TooMany, certificate, grammar, symbol, word), {"limit": 50})
            return None
        found = certificate(grammar, symbol, word)
        self.assertIs(type(found), tuple)
        self.assertEqual(found[0], "in" if inside else "out", (grammar.productions(), symbol, word))
        self.assertIs(is_certificate(grammar, symbol, word, found), True)
        if inside:
            self.assertTrue(slow_is_certificate(grammar, symbol, word, found))
        return found

    def check_grammar(self, grammar, most):
        words = closed_words(grammar, most)
        table = table_or_none(grammar)
        if table is not None:
            self.assertTrue(slow_is_upper_bound(grammar, table))
        for symbol in grammar.symbols():
            for word in all_words(grammar.alphabet(), most):
                self.check_word(grammar, symbol, word, word in words[symbol], over=table is None)

    def test_short_words(self):
        for alphabet, most in [("a", 5), ("ab", 3), ("abc", 2)]:
            for seed, share in enumerate([0.4, 0.6, 0.8]):
                for grammar in some_grammars(alphabet, 12, 110 + seed, share=share):
                    self.check_grammar(grammar, most)
            for grammar in layered_grammars(alphabet, 12, 113):
                self.check_grammar(grammar, most)

    def test_words_of_ten_letters(self):
        source = random.Random(114)
        seen = {True: 0, False: 0}
        for grammar in some_grammars("ab", 40, 115) + layered_grammars("abc", 30, 116):
            table = table_or_none(grammar)
            for symbol in grammar.symbols() if table is not None else []:
                words = ["".join(source.choice(grammar.alphabet()) for _ in range(10)) for _ in range(2)]
                for product in table[symbol].products()[:2]:
                    word = "".join(letters * 5 if kind == "star" else letters for kind, letters in product)
                    words += [word[:10], "".join(sorted(source.sample(word, min(len(word), 10))))]
                for word in words:
                    inside = table[symbol].contains(word)
                    seen[inside] += len(word) == 10
                    self.check_word(grammar, symbol, word, inside)
        self.assertGreater(min(seen.values()), 20, seen)

    def test_longer_words(self):
        grammar = Grammar("ab", [("S", "aSb"), ("S", "T"), ("T", "TT"), ("T", "b"), ("T", "")])
        for word in ["a" * 14 + "b" * 3, "ba" * 7, "b" * 15]:
            self.check_word(grammar, "S", word, closure(grammar, "S").contains(word))

    def test_trees_in_trees(self):
        # The letters are kept deep below chains of symbols, each of which keeps them all.
        chain = [("A", "B"), ("B", "C"), ("C", "D"), ("D", "E"), ("E", "F"), ("F", "aAb"), ("F", "AA"), ("F", "")]
        grammar = Grammar("ab", chain)
        for word in ["aabb", "abab", "bbbbbbbbbb", "abababababa"[:10]]:
            for symbol in "AF":
                self.check_word(grammar, symbol, word, True)

    def test_the_empty_word(self):
        grammar = Grammar("ab", [("S", "TTT"), ("T", "aUb"), ("U", "ab"), ("V", "V"), ("W", "")])
        for symbol in "STUW":
            found = self.check_word(grammar, symbol, "", True)
            self.assertEqual(found[0], "in")
        self.check_word(grammar, "V", "", False)

    def test_symbols_that_derive_nothing(self):
        grammar = Grammar("ab", [("S", "aTb"), ("T", "S"), ("U", "a"), ("U", "aS")])
        for symbol in "ST":
            for word in all_words("ab", 3):
                self.check_word(grammar, symbol, word, False)
        self.check_word(grammar, "U", "a", True)
        self.check_word(grammar, "U", "aa", False)
        # A tree that leaves out what derives nothing is not right, whatever the ranks say.
        for ranks in [{}, {"S": 1}, {"S": 1, "T": 0}, {"S": 0, "T": 1}, {"S": 2, "U": 1}]:
            self.assertFalse(is_certificate(grammar, "U", "a", ("in", (3, ("a", None)), ranks)))

    def test_new_with_every_call(self):
        grammar = Grammar("ab", [("S", "aS"), ("S", "")])
        certificate(grammar, "S", "a")[2].clear()
        certificate(grammar, "S", "b")[1].clear()
        self.assertTrue(is_certificate(grammar, "S", "a", certificate(grammar, "S", "a")))
        self.assertTrue(is_certificate(grammar, "S", "b", certificate(grammar, "S", "b")))


class TestErrors(unittest.TestCase):

    thick = [("R", "a"), ("R", "b"), ("S", "RR"), ("T", "SS"), ("U", "TS")]

    def test_unknown_comes_first(self):
        grammar = Grammar("ab", self.thick)
        for thing in NOT_TEXTS + ODD_TEXTS + ["", "Q", "RS", "a", ["S"], ("S",)]:
            for word in ["", "a", "bbbbbbbbbbbb"]:
                self.assertEqual(raised(UnknownSymbol, certificate, grammar, thing, word), {"symbol": thing})
            for other in [None, 1, ("in", (0, ("a",)), {}), ("out", {}), thing]:
                self.assertEqual(raised(UnknownSymbol, is_certificate, grammar, thing, "a", other), {"symbol": thing})

    def test_too_many_only_outside(self):
        grammar = Grammar("ab", self.thick + [("V", "a")])
        for symbol, word in [("U", "abbaba"), ("U", "bbbbbb"), ("V", "a"), ("R", "b"), ("S", "ab"), ("T", "")]:
            found = certificate(grammar, symbol, word)
            self.assertEqual(found[0], "in")
            self.assertTrue(is_certificate(grammar, symbol, word, found))
        for symbol, word in [("U", "abbabaa"), ("V", "b"), ("R", "ab"), ("S", "aaa"), ("T", "aaaaaa")]:
            self.assertEqual(raised(TooMany, certificate, grammar, symbol, word), {"limit": 50})
        full = {symbol: Language("ab", [(("star", "ab"),)]) for symbol in "RSTUV"}
        full["V"] = parse_language("ab: a?")
        self.assertTrue(is_certificate(grammar, "V", "b", ("out", full)))
        self.assertFalse(is_certificate(grammar, "V", "a", ("out", full)))
        self.assertFalse(is_certificate(grammar, "U", "b", ("out", full)))


class TestChecker(unittest.TestCase):

    grammar = Grammar("ab", [("S", "aTb"), ("T", "UU"), ("U", "a"), ("U", "bT"), ("S", ""), ("V", "SaV")])

    def test_any_object(self):
        for thing in NOT_TEXTS + ODD_TEXTS + ["in", "out", ("in",), ("out",), ("in", "out"), ["in", (0, ()), {}]]:
            self.assertIs(is_certificate(self.grammar, "S", "a", thing), False)
            for more in [("in", thing, {}), ("in", (4, ()), thing), ("out", thing), (thing, (4, ()), {}), (thing, thing),
                         ("in", (thing, ()), {}), ("in", (4, thing), {}), ("in", (0, (thing, thing, thing)), {"T": 3, "U": 1}),
                         ("in", (0, ("a", None, thing)), {"T": 2, "U": thing}), ("out", {"S": thing})]:
                found = is_certificate(self.grammar, "S", "", more)
                self.assertIs(found, slow_is_certificate(self.grammar, "S", "", more), more)

    def test_by_hand(self):
        ranks = {"T": 2, "U": 1}
        right = (0, ("a", (1, ((3, ("b", None)), (2, (None,)))), None))
        self.assertTrue(is_certificate(self.grammar, "S", "ab", ("in", right, ranks)))
        wrong = [
            None, (), (0,), (0, None), (0, ()), (0, ("a", None)), (0, ("a", None, "b", None)), (0, ["a", None, "b"]),
            [0, ("a", None, "b")], (0, ("b", None, "b")), (0, ("a", None, "a")), (0, ("ab", None, None)), (0, ("", None, "b")),
            (1, ("a", None, "b")), (4, ("a", None, "b")), (-6, ("a", None, "b")), (6, ("a", None, "b")), (0, ("a", "T", "b")),
            (0, ("a", (2, ("a",)), "b")), (0, ("a", (1, (None,)), "b")), (0, ("a", (1, (None, (4, ()))), "b")),
            (False, ("a", None, "b")), ("0", ("a", None, "b")), (0, ("a", (), "b")), (0, ("a", 0, "b")), (0, ("a", False, "b")),
            (0, ("a", None, ("b",))), (10 ** 30, ("a", None, "b")), (0, (None, None, None)), (0, ("a", None, "b"), {}),
        ]
        for tree in wrong:
            self.assertIs(is_certificate(self.grammar, "S", "ab", ("in", tree, ranks)), False, tree)
        self.assertTrue(is_certificate(self.grammar, "S", "ab", ("in", (0, ("a", None, "b")), ranks)))

    def test_the_symbol_itself_is_not_deleted(self):
        for symbol, ranks in [("S", {"S": 1}), ("S", {"S": 3, "T": 2, "U": 1}), ("U", {"U": 1})]:
            self.assertIs(is_certificate(self.grammar, symbol, "", ("in", None, ranks)), False)
            self.assertEqual(certificate(self.grammar, symbol, "")[0], "in")

    def test_indexes_from_the_end(self):
        grammar = Grammar("ab", [("S", "a"), ("S", "b")])
        for index in range(-4, 5):
            self.assertIs(is_certificate(grammar, "S", "a", ("in", (index, ("a",)), {})), index == 0)
            self.assertIs(is_certificate(grammar, "S", "b", ("in", (index, ("b",)), {})), index == 1)

    def test_ranks(self):
        tree = (0, ("a", None, "b"))
        right = [{"T": 2, "U": 1}, {"U": 0, "T": 1}, {"T": -5, "U": -10 ** 20}, {"T": 2, "U": 1, "S": 0},
                 {"T": 2, "U": 1, "S": 99}, {"T": 10 ** 30, "U": 7}]
        wrong = [{}, {"U": 1}, {"T": 2}, {"T": 1, "U": 1}, {"T": 1, "U": 2}, {"T": 2, "U": True}, {"T": 2, "U": None},
                 {"T": 2, "U": "1"}, {"T": 2, "U": 1, "V": 3}, {"T": 2, "U": 1, "V": 3, "S": 1}, {"T": 2, "U": 1, "X": 1},
                 {"T": 2, "U": 1, None: 1}, {"T": 2, "U": 1, 0: 0}, {"T": 2, "U": 1, "": 0}, {"T": 2, "U": 1, ("T",): 0},
                 {"T": 2, "U": 1, "a": 0}, {"T": 2, "U": [1]}, [("T", 2), ("U", 1)], (("T", 2), ("U", 1)), None, ["T", "U"],
                 {"T": True, "U": 0}, {"T": 2, "U": False}, {"T": 2, "U": 1, "TU": 5}, "TU"]
        for ranks in right:
            self.assertIs(is_certificate(self.grammar, "S", "ab", ("in", tree, ranks)), True, ranks)
        for ranks in wrong:
            self.assertIs(is_certificate(self.grammar, "S", "ab", ("in", tree, ranks)), False, ranks)
        # Without deleted symbols, no ranks are needed, but wrong ones are wrong.
        self.assertTrue(is_certificate(self.grammar, "S", "", ("in", (4, ()), {})))
        self.assertFalse(is_certificate(self.grammar, "S", "", ("in", (4, ()), {"T": 1})))
        self.assertFalse(is_certificate(self.grammar, "S", "", ("in", (4, ()), {"V": 1})))

    def test_changed_certificates(self):
        source = random.Random(117)
        seen = {True: 0, False: 0}
        for grammar in some_grammars("ab", 40, 118) + layered_grammars("abc", 30, 119):
            if table_or_none(grammar) is None:
                continue
            words = all_words(grammar.alphabet(), 3)
            for symbol in grammar.symbols():
                for word in source.sample(words, 4):
                    found = certificate(grammar, symbol, word)
                    for _ in range(12):
                        other = found
                        for _ in range(source.choice([1, 1, 2])):
                            other = changed(source, other, grammar)
                        expected = slow_is_certificate(grammar, symbol, word, other)
                        self.assertIs(is_certificate(grammar, symbol, word, other), expected,
                                      (grammar.productions(), symbol, word, other))
                        seen[expected] += 1
        self.assertGreater(min(seen.values()), 200, seen)

    def test_raised_ranks_and_other_words(self):
        for grammar in some_grammars("ab", 30, 120):
            for symbol in sorted(slow_ranks(grammar)):
                for word in sorted(closed_words(grammar, 3)[symbol]):
                    kind, tree, ranks = certificate(grammar, symbol, word)
                    for more in [-7, 1, 10 ** 12]:
                        higher = {key: rank + more for key, rank in ranks.items()}
                        self.assertTrue(is_certificate(grammar, symbol, word, ("in", tree, higher)))
                    every = slow_ranks(grammar)
                    self.assertTrue(is_certificate(grammar, symbol, word, ("in", tree, every)))
                    for other in all_words("ab", 3):
                        self.assertIs(is_certificate(grammar, symbol, other, ("in", tree, ranks)), other == word)
                    for other in grammar.symbols():
                        self.assertIs(is_certificate(grammar, other, word, ("in", tree, ranks)), other == symbol)

    def test_tables(self):
        grammar = Grammar("ab", [("S", "aS"), ("S", "b"), ("T", "SS")])
        table = closure_table(grammar)
        self.assertTrue(is_certificate(grammar, "S", "ba", ("out", table)))
        self.assertFalse(is_certificate(grammar, "S", "ab", ("out", table)))
        self.assertTrue(is_certificate(grammar, "T", "bbb", ("out", table)))
        self.assertFalse(is_certificate(grammar, "T", "bab", ("out", table)))
        larger = {**table, "T": parse_language("ab: {ab}*")}
        self.assertFalse(is_certificate(grammar, "T", "bbb", ("out", larger)))
        self.assertTrue(is_certificate(grammar, "S", "ba", ("out", larger)))
        narrow = {**table, "T": parse_language("ab: a?")}
        self.assertFalse(is_certificate(grammar, "S", "ba", ("out", narrow)))
        for wrong in [("in", table), ("out", table, {}), ("out", table, None), ["out", table], ("out",), ("Out", table),
                      ("out", {"S": table["S"]}), ("out", {**table, "U": table["S"]}), ("out", list(table.items()))]:
            self.assertIs(is_certificate(grammar, "S", "ba", wrong), False)

    def test_deep_trees(self):
        grammar = Grammar("ab", [("S", "S"), ("S", "a")])
        tree = (1, ("a",))
        for _ in range(95):
            tree = (0, (tree,))
        self.assertTrue(is_certificate(grammar, "S", "a", ("in", tree, {})))
        self.assertFalse(is_certificate(grammar, "S", "", ("in", tree, {})))
        for thing in DEEP:
            self.assertFalse(is_certificate(grammar, "S", "a", ("in", thing, {})))

    def test_long_words(self):
        grammar = Grammar("ab", [("S", "aS"), ("S", "SSS"), ("S", "")])
        tree = (2, ())
        for _ in range(60):
            tree = (0, ("a", tree))
        self.assertTrue(is_certificate(grammar, "S", "a" * 60, ("in", tree, {})))
        self.assertTrue(is_certificate(grammar, "S", "a" * 180, ("in", (1, (tree, tree, tree)), {})))
        self.assertFalse(is_certificate(grammar, "S", "a" * 179, ("in", (1, (tree, tree, tree)), {})))

    def test_arguments_stay(self):
        grammar = Grammar("ab", [("S", "aT"), ("T", "b")])
        ranks, table = {"T": 1}, {"T": parse_language("ab: b?"), "S": parse_language("ab: a?b?")}
        is_certificate(grammar, "S", "a", ("in", (0, ("a", None)), ranks))
        is_certificate(grammar, "S", "ba", ("out", table))
        self.assertEqual(ranks, {"T": 1})
        self.assertEqual(list(table), ["T", "S"])


PARTS = [None, 0, 1, 2, -1, True, False, "", "a", "b", "S", "in", "out", (), ("a",), (None,), {}, [], TooLarge(1),
         Language("ab", []), Language("abc", [()]), (0, ()), (1, (None,)), {"S": 1}]


def changed(source, thing, grammar):
    """The object with one part of it changed, left out, put in, or replaced by a similar one."""
    if isinstance(thing, (tuple, list)) and thing and source.random() < 0.8:
        at = source.randrange(len(thing))
        part = list(thing)
        turn = source.random()
        if turn < 0.8:
            part[at] = changed(source, part[at], grammar)
        elif turn < 0.9:
            del part[at]
        else:
            part.insert(at, source.choice(PARTS))
        return type(thing)(part)
    if isinstance(thing, dict) and source.random() < 0.9:
        return changed_dict(source, dict(thing), grammar)
    if type(thing) is int:
        return source.choice([thing + 1, thing - 1, thing + source.randrange(5), bool(thing), str(thing), None])
    if isinstance(thing, Language):
        return changed_language(source, thing)
    if isinstance(thing, str) and len(thing) == 1:
        return source.choice(["a", "b", "c", None, thing, thing * 2, ""])
    return source.choice(PARTS)


def changed_dict(source, table, grammar):
    keys = list(table)
    turn = source.random()
    if keys and turn < 0.7:
        key = source.choice(keys)
        table[key] = changed(source, table[key], grammar)
    elif keys and turn < 0.85:
        del table[source.choice(keys)]
    elif turn < 0.95:
        table[source.choice(grammar.symbols() + ["Q", None, 0])] = source.choice(list(table.values()) + [1, 9])
    else:
        table = dict(reversed(table.items()))
    return table


def changed_language(source, entry):
    products = entry.products()
    letters = entry.alphabet()
    more = [(("opt", source.choice(letters)),) * source.randrange(3), (("star", letters),)]
    return source.choice([
        Language(letters, products[1:]), Language(letters, products + more[:1]), Language(letters, products + more[1:]),
        Language(letters, products * 2), Language("ab" if letters == "abc" else "abc", []), str(entry), products,
    ])


class TestExcludedWords(unittest.TestCase):

    def test_there_and_back(self):
        tried = 0
        for grammar in some_grammars("ab", 60, 121) + some_grammars("abc", 40, 122) + layered_grammars("ab", 30, 123):
            for symbol in grammar.symbols():
                found = table_or_none(grammar)
                if found is None or raised(TooLarge, excluded_words, found[symbol]):
                    continue
                words = excluded_words(found[symbol])
                for word in words if max(map(len, words), default=0) <= 12 else []:
                    tried += 1
                    against = certificate(grammar, symbol, word)
                    self.assertEqual(against[0], "out")
                    self.assertTrue(is_certificate(grammar, symbol, word, against))
                    for at in range(len(word)):
                        shorter = word[:at] + word[at + 1:]
                        for_it = certificate(grammar, symbol, shorter)
                        self.assertEqual(for_it[0], "in")
                        self.assertTrue(is_certificate(grammar, symbol, shorter, for_it))
                if sum(map(len, words)) <= 14:
                    self.assertEqual(avoiding(grammar.alphabet(), words), found[symbol])
        self.assertGreater(tried, 100)


if __name__ == "__main__":
    unittest.main()
