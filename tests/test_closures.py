"""Points [3], [22] and [23]: closures of symbols, side letters and limits."""

import random
import unittest

from downwords.analysis import component_kinds, components, ranks
from downwords.closures import closure, side_letters
from downwords.errors import DownwordsError, TooMany, UnknownSymbol
from downwords.expressions import closure_of_expression
from downwords.grammars import Grammar
from downwords.languages import Language, closure_of_words
from downwords.products import reduce_product
from expression_support import some_choices, text_of
from grammar_support import (
    closed_words, layered_grammars, living_productions, renamed, slow_closures, slow_ranks, some_grammars, star_of,
)
from support import NOT_TEXTS, ODD_TEXTS, all_products, all_words, check_one_list, raised, some_products

MOST = {"a": 6, "ab": 5, "abc": 4}


def closure_or_none(grammar, symbol):
    """The closure, or None if it is too large."""
    try:
        return closure(grammar, symbol)
    except TooMany as error:
        assert error.limit == 50
        return None


class TestExamples(unittest.TestCase):

    def test_example(self):
        grammar = Grammar("ab", [("S", "aSb"), ("S", "T"), ("T", "TT"), ("T", "a")])
        self.assertEqual(str(closure(grammar, "T")), "ab: {a}*")
        self.assertEqual(str(closure(grammar, "S")), "ab: {a}*{b}*")
        self.assertEqual(side_letters(grammar, "S"), ("a", "b"))
        self.assertIsNone(side_letters(grammar, "T"))

    def test_by_hand(self):
        rows = [
            ([("S", "")], "ab: -"), ([("S", "ab")], "ab: a?b?"), ([("S", "ab"), ("S", "ba")], "ab: a?b? + b?a?"),
            ([("S", "S")], "ab: none"), ([("S", "S"), ("S", "")], "ab: -"), ([("S", "SS"), ("S", "")], "ab: -"),
            ([("S", "SS"), ("S", "a")], "ab: {a}*"), ([("S", "aSb"), ("S", "SS"), ("S", "")], "ab: {ab}*"),
            ([("S", "aS"), ("S", "b")], "ab: {a}*b?"), ([("S", "Sa"), ("S", "b")], "ab: b?{a}*"),
            ([("S", "aSa"), ("S", "bSb"), ("S", "")], "ab: {ab}*"), ([("S", "aSb"), ("S", "ba")], "ab: {a}*b?a?{b}*"),
            ([("S", "aT"), ("T", "Sb"), ("S", "ba")], "ab: {a}*b?a?{b}*"), ([("S", "T")], "ab: none"),
            ([("S", "aTb"), ("T", "ab"), ("T", "b")], "ab: a?a?b?b?"),
            ([("S", "TSU"), ("S", "bb"), ("T", "a"), ("T", ""), ("U", "TT")], "ab: {a}*b?b?{a}*"),
        ]
        for productions, form in rows:
            self.assertEqual(str(closure(Grammar("ab", productions), "S")), form, productions)


class TestClosures(unittest.TestCase):

    def check_grammar(self, grammar, most):
        words = closed_words(grammar, most)
        everything = all_words(grammar.alphabet(), most)
        slow, numbers, sides = slow_closures(grammar)
        for symbol in grammar.symbols():
            if numbers.get(symbol, 0) > 50:
                self.assertEqual(raised(TooMany, closure, grammar, symbol), {"limit": 50})
                self.assertEqual(raised(TooMany, side_letters, grammar, symbol), {"limit": 50})
                continue
            found = closure(grammar, symbol)
            check_one_list(self, found)
            self.assertEqual(found.alphabet(), grammar.alphabet())
            self.assertEqual({word for word in everything if found.contains(word)}, words[symbol],
                             (grammar.productions(), symbol))
            self.assertEqual(found.products(), slow.get(symbol, []))
            self.assertEqual(closure(grammar, symbol), found)
            self.assertEqual(side_letters(grammar, symbol), sides.get(symbol), (grammar.productions(), symbol))

    def test_against_short_words(self):
        kinds = set()
        for alphabet in ["a", "ab", "abc"]:
            for seed, share in enumerate([0.3, 0.5, 0.7, 0.85]):
                for grammar in some_grammars(alphabet, 30, 70 + seed, share=share):
                    self.check_grammar(grammar, MOST[alphabet])
                    kinds |= set(component_kinds(grammar))
        self.assertEqual(kinds, {"single", "linear", "branching"})

    def test_layers(self):
        for alphabet in ["ab", "abc"]:
            for share in [0.3, 0.5, 0.8]:
                for grammar in layered_grammars(alphabet, 25, 80, share=share):
                    self.check_grammar(grammar, MOST[alphabet])

    def test_small_grammars(self):
        items = ["", "a", "b", "S", "T", "aS", "Sb", "ST", "TaS", "SS", "aTb"]
        for first in items:
            for second in items:
                grammar = Grammar("ab", [("S", first), ("T", second), ("S", "T"), ("T", "b")])
                self.check_grammar(grammar, 5)

    def test_long_words(self):
        source = random.Random(71)
        tried = 0
        for grammar in some_grammars("ab", 120, 72, share=0.6) + layered_grammars("abc", 80, 73):
            for symbol in sorted(slow_ranks(grammar)):
                found = closure_or_none(grammar, symbol)
                for _ in range(3):
                    word = some_derived_word(source, grammar, symbol)
                    if found is not None and len(word) <= 60:
                        tried += len(word) > 12
                        self.assertTrue(found.contains(word))
                        kept = "".join(letter for letter in word if source.random() < 0.7)
                        self.assertTrue(found.contains(kept))
        self.assertGreater(tried, 30)

    def test_without_recursion(self):
        tried = 0
        for alphabet in ["ab", "abc"]:
            for grammar in layered_grammars(alphabet, 80, 74, share=0.7) + some_grammars(alphabet, 60, 75, most=8):
                if set(component_kinds(grammar)) <= {"single"}:
                    words = derived_words(grammar)
                    for symbol in grammar.symbols():
                        if len(words[symbol]) <= 200:
                            tried += len(words[symbol]) > 1
                            found = closure_or_none(grammar, symbol)
                            expected = closure_of_words(alphabet, sorted(words[symbol]))
                            if found is not None:
                                self.assertEqual(found, expected)
        self.assertGreater(tried, 40)

    def test_one_symbol_for_each_factor(self):
        products = all_products("ab", 2) + all_products("abc", 1)
        products += [row for size in [3, 4, 5, 6] for row in some_products("abc", size, 40, 76 + size)]
        for product in products:
            productions = productions_of_product(product)
            if len(productions) <= 16:
                found = closure(Grammar("abc", productions), "A")
                self.assertEqual(found, Language("abc", [product]), product)
                self.assertEqual(found.products(), [reduce_product(product)])

    def test_a_grammar_without_symbols(self):
        self.assertEqual(raised(UnknownSymbol, closure, Grammar("ab", []), "S"), {"symbol": "S"})


def some_derived_word(source, grammar, symbol):
    """A word that a symbol derives: at first by any productions, in the end by those of least rank."""
    rank = slow_ranks(grammar)
    rows = living_productions(grammar)
    form = symbol
    for step in range(400):
        places = [at for at, item in enumerate(form) if item.isupper()]
        if not places:
            break
        at = source.choice(places)
        choices = [items for own, items in rows if own == form[at]]
        if step > 60 or len(form) > 45:
            choices = [items for items in choices
                       if all(rank[item] < rank[form[at]] for item in items if item.isupper())]
        form = form[:at] + source.choice(choices) + form[at + 1:]
    return form if not any(item.isupper() for item in form) else "a" * 100


def derived_words(grammar):
    """All words that the symbols of a grammar without recursion derive."""
    found = {symbol: set() for symbol in grammar.symbols()}
    for symbol in [symbol for component in components(grammar) for symbol in component]:
        for items in [items for own, items in grammar.productions() if own == symbol]:
            words = {""}
            for item in items:
                more = found[item] if item.isupper() else {item}
                words = {start + end for start in words for end in more}
            found[symbol] |= words
    return found


def productions_of_product(product):
    """Productions with one symbol for each factor; each one goes on with the next one."""
    symbols = "ABCDEF"
    productions = [] if product else [("A", "")]
    for at, (kind, letters) in enumerate(product):
        after = symbols[at + 1] if at + 1 < len(product) else ""
        if kind == "opt":
            productions.append((symbols[at], letters + after))
        else:
            productions += [(symbols[at], letter + symbols[at]) for letter in letters] + [(symbols[at], after)]
    return productions


class TestChangedGrammars(unittest.TestCase):

    def check_same(self, grammar, other, symbols):
        for symbol in symbols:
            one, two = closure_or_none(grammar, symbol), closure_or_none(other, symbol)
            if one is not None and two is not None:
                self.assertEqual(one, two, (grammar.productions(), other.productions(), symbol))

    def drawn(self, seed):
        return some_grammars("ab", 60, seed, most=12) + layered_grammars("abc", 40, seed)

    def test_order_and_twice(self):
        source = random.Random(90)
        for grammar in self.drawn(91):
            productions = grammar.productions()
            other = source.sample(productions, len(productions)) + productions[:2]
            if len(other) <= 16:
                self.check_same(grammar, Grammar(grammar.alphabet(), other), grammar.symbols())

    def test_cut_in_two(self):
        tried = 0
        for grammar in self.drawn(92):
            for at, (symbol, items) in enumerate(grammar.productions()):
                rest = grammar.productions()[:at] + grammar.productions()[at + 1:]
                if len(items) == 3 and len(grammar.symbols()) < 6 and len(rest) <= 14:
                    tried += 1
                    for cut in [[(symbol, items[0] + "Q"), ("Q", items[1:])], [(symbol, "Q" + items[2]), ("Q", items[:2])]]:
                        other = Grammar(grammar.alphabet(), rest + cut)
                        self.check_same(grammar, other, grammar.symbols())
        self.assertGreater(tried, 20)

    def test_put_in(self):
        tried = 0
        for grammar in self.drawn(93):
            for at, (symbol, items) in enumerate(grammar.productions()):
                for place, item in enumerate(items):
                    rows = [row for own, row in grammar.productions() if own == item]
                    longer = [(symbol, items[:place] + row + items[place + 1:]) for row in rows]
                    productions = grammar.productions()[:at] + longer + grammar.productions()[at + 1:]
                    if item.isupper() and len(productions) <= 16 and all(len(row) <= 3 for _, row in longer):
                        tried += 1
                        other = Grammar(grammar.alphabet(), productions)
                        self.check_same(grammar, other, other.symbols())
        self.assertGreater(tried, 40)

    def test_letters_replaced(self):
        for grammar in self.drawn(94):
            alphabet = grammar.alphabet()
            for one in alphabet:
                for other in alphabet + "-":
                    names = {one: other.strip("-")}
                    changed = renamed(grammar, names)
                    for symbol in set(grammar.symbols()) & set(changed.symbols()):
                        before, after = closure_or_none(grammar, symbol), closure_or_none(changed, symbol)
                        if before is not None and after is not None:
                            products = [replaced(product, names) for product in before.products()]
                            self.assertEqual(after, Language(alphabet, products))

    def test_letters_of_another_alphabet(self):
        for grammar in some_grammars("abc", 30, 95):
            names = dict(zip("abc", "kxz"))
            other = Grammar("kxz", [(symbol, "".join(names.get(item, item) for item in items))
                                    for symbol, items in grammar.productions()])
            for symbol in grammar.symbols():
                before, after = closure_or_none(grammar, symbol), closure_or_none(other, symbol)
                if before is not None:
                    products = [replaced(product, names) for product in before.products()]
                    self.assertEqual(after, Language("kxz", products))

    def test_a_letter_that_is_not_used(self):
        for grammar in some_grammars("ab", 30, 96):
            other = Grammar("abc", grammar.productions())
            for symbol in grammar.symbols():
                if closure_or_none(grammar, symbol) is not None:
                    self.assertEqual(closure(grammar, symbol).products(), closure(other, symbol).products())
                    self.assertEqual(closure(other, symbol).alphabet(), "abc")


def replaced(product, names):
    """The product with other letters, or without them."""
    factors = []
    for kind, letters in product:
        left = "".join(sorted({names.get(letter, letter) for letter in letters} - {""}))
        factors += [(kind, left)] if left else []
    return tuple(factors)


class TestSideLetters(unittest.TestCase):

    def test_by_hand(self):
        rows = [
            ([("S", "aSb"), ("S", "")], "S", ("a", "b")), ([("S", "S"), ("S", "a")], "S", ("", "")),
            ([("S", "cS"), ("S", "aSb"), ("S", "")], "S", ("ac", "b")), ([("S", "a")], "S", None),
            ([("S", "SS"), ("S", "a")], "S", None), ([("S", "S")], "S", None),
            ([("S", "aT"), ("T", "Sb"), ("S", "c")], "T", ("a", "b")),
            ([("S", "TSU"), ("T", "ba"), ("U", "cUU"), ("U", ""), ("S", "")], "S", ("ab", "c")),
            ([("S", "bcS"), ("S", "aS"), ("S", "")], "S", ("abc", "")),
            ([("S", "TTS"), ("T", "ca"), ("S", "")], "S", ("ac", "")), ([("S", "T"), ("T", "Ta"), ("T", "")], "S", None),
        ]
        for productions, symbol, expected in rows:
            self.assertEqual(side_letters(Grammar("abc", productions), symbol), expected, productions)

    def test_productions_that_derive_nothing(self):
        grammar = Grammar("abc", [("S", "aS"), ("S", "b"), ("S", "cSU"), ("S", "UcS"), ("U", "bU")])
        self.assertEqual(side_letters(grammar, "S"), ("a", ""))
        self.assertIsNone(side_letters(grammar, "U"))
        grammar = Grammar("abc", [("S", "SSU"), ("S", "Sc"), ("S", "b")])
        self.assertEqual(side_letters(grammar, "S"), ("", "c"))

    def test_the_sides_add_nothing(self):
        tried = 0
        for grammar in some_grammars("abc", 60, 97):
            for symbol in grammar.symbols():
                found = closure_or_none(grammar, symbol)
                pair = side_letters(grammar, symbol) if found is not None else None
                if pair is not None:
                    tried += 1
                    self.assertIs(type(pair), tuple)
                    self.assertEqual(["".join(sorted(set(part))) for part in pair], list(pair))
                    front, back = star_of(pair[0])[0], star_of(pair[1])[0]
                    for product in found.products():
                        self.assertEqual(reduce_product(front + product + back), product)
        self.assertGreater(tried, 20)


class TestUnknown(unittest.TestCase):

    def test_any_object(self):
        grammar = Grammar("ab", [("S", "aT"), ("T", "U")])
        for thing in NOT_TEXTS + ODD_TEXTS + ["", "a", "b", "s", "X", "ST", "STU", "SS", ["S"], ("S",), {"S": "S"}]:
            for function in [closure, side_letters]:
                with self.assertRaises(UnknownSymbol) as caught:
                    function(grammar, thing)
                self.assertEqual(caught.exception.symbol, thing)
                self.assertIsInstance(caught.exception, DownwordsError)

    def test_unknown_comes_first(self):
        grammar = sixty_four()
        self.assertEqual(raised(UnknownSymbol, closure, grammar, "Q"), {"symbol": "Q"})
        self.assertEqual(raised(UnknownSymbol, side_letters, grammar, "Q"), {"symbol": "Q"})

    def test_symbols_without_productions(self):
        grammar = Grammar("ab", [("S", "aT"), ("T", "U")])
        for symbol in "STU":
            self.assertEqual(str(closure(grammar, symbol)), "ab: none")
            self.assertIsNone(side_letters(grammar, symbol))


# S has 4 products, T 16 and U 64.
THICK = [("R", "a"), ("R", "b"), ("S", "RR"), ("T", "SS")]


def sixty_four(more=()):
    return Grammar("abc", THICK + [("U", "TS")] + list(more))


class TestLimits(unittest.TestCase):

    def check_limit(self, grammar, over, under=""):
        for symbol in over:
            self.assertEqual(raised(TooMany, closure, grammar, symbol), {"limit": 50}, symbol)
            self.assertEqual(raised(TooMany, side_letters, grammar, symbol), {"limit": 50}, symbol)
        for symbol in under:
            self.assertLessEqual(len(closure(grammar, symbol).products()), 50)
            side_letters(grammar, symbol)

    def test_the_closure(self):
        self.check_limit(sixty_four(), "U", "RST")
        self.assertEqual(len(closure(sixty_four(), "T").products()), 16)

    def test_what_is_reached(self):
        self.check_limit(sixty_four([("V", "U")]), "UV", "RST")
        self.check_limit(sixty_four([("V", "aU"), ("V", "VV")]), "UV", "RST")
        self.check_limit(sixty_four([("V", "UV"), ("V", "")]), "UV", "RST")
        self.check_limit(sixty_four([("W", "V"), ("V", "UVV"), ("V", "")]), "UVW", "RST")
        # A star that takes in everything does not help.
        self.check_limit(sixty_four([("U", "V"), ("V", "aV"), ("V", "bV"), ("V", "")]), "U", "RSTV")

    def test_out_of_reach(self):
        self.check_limit(sixty_four([("V", "T"), ("V", "c")]), "U", "RSTV")

    def test_productions_that_derive_nothing(self):
        grammar = Grammar("abc", THICK + [("U", "TSV"), ("U", "TS"), ("U", "V")][::2] + [("V", "V")])
        self.check_limit(grammar, "", "RSTUV")
        self.assertEqual(str(closure(grammar, "U")), "abc: none")
        grammar = Grammar("abc", THICK + [("U", "TSV"), ("U", "c"), ("V", "TTV")])
        self.assertEqual(str(closure(grammar, "U")), "abc: c?")
        self.assertEqual(str(closure(grammar, "V")), "abc: none")
        self.check_limit(grammar, "", "RSTUV")

    def test_items_of_the_own_component(self):
        for productions in [[("U", "TSU"), ("U", "c")], [("U", "UTT"), ("U", "c")], [("U", "TUT"), ("U", "c")]]:
            grammar = Grammar("abc", THICK + productions)
            self.check_limit(grammar, "", "RSTU")
            self.assertEqual(len(closure(grammar, "U").products()), 1)
        self.assertEqual(side_letters(Grammar("abc", THICK + [("U", "TSU"), ("U", "c")]), "U"), ("ab", ""))
        # The productions without such an item are limited, though the side letters take in all.
        grammar = Grammar("abc", THICK + [("U", "aUb"), ("U", "bUa"), ("U", "TS")])
        self.check_limit(grammar, "U", "RST")

    def test_branching_components_are_not_limited(self):
        grammar = sixty_four([("U", "UU")])
        self.assertEqual(str(closure(grammar, "U")), "abc: {ab}*")
        self.check_limit(grammar, "", "RSTU")
        self.check_limit(sixty_four([("V", "VV"), ("V", "TSc")]), "U", "V")

    def test_a_beginning(self):
        # The star behind the beginning takes in all of it, the one in front does, too.
        many = [("V", "VV"), ("V", "a"), ("V", "b")]
        behind = Grammar("abc", THICK + many + [("U", "TSV")])
        before = Grammar("abc", THICK + many + [("U", "VTS")])
        between = Grammar("abc", THICK + many + [("U", "TVS")])
        self.check_limit(behind, "U", "RSTV")
        self.check_limit(before, "", "RSTUV")
        self.assertEqual(str(closure(before, "U")), "abc: {ab}*")
        self.assertEqual(str(closure(between, "U")), "abc: {ab}*")

    def test_a_beginning_in_a_linear_component(self):
        many = [("V", "VV"), ("V", "a"), ("V", "b")]
        self.check_limit(Grammar("abc", THICK + many + [("U", "TSV"), ("U", "cU")]), "U", "RSTV")
        self.check_limit(Grammar("abc", THICK + many + [("U", "VTS"), ("U", "cU")]), "", "RSTUV")

    def test_the_union_of_a_linear_component(self):
        # Four productions with 16 products each, all of which the side letters take in.
        rows = [("U", first + "T" + second) for first in "ab" for second in "ab"]
        self.check_limit(Grammar("abc", THICK + rows), "U", "RST")
        self.check_limit(Grammar("abc", THICK + rows[:3]), "", "RSTU")
        sides = [("U", "abU")]
        grammar = Grammar("abc", THICK + rows[:3] + sides)
        self.assertEqual(str(closure(grammar, "U")), "abc: {ab}*")
        self.check_limit(Grammar("abc", THICK + rows + sides), "U", "RST")
        # In two symbols of one component, too.
        rows = rows[:2] + [("V", items) for _, items in rows[2:]] + [("U", "aV"), ("V", "bU")]
        self.check_limit(Grammar("abc", THICK + rows), "UV", "RST")

    def test_exactly_fifty(self):
        # 25 products of two words each, and two letters behind them.
        five = [("A", "aa"), ("A", "ab"), ("A", "ba"), ("A", "bb"), ("A", "c"), ("B", "a"), ("B", "b")]
        fifty = Grammar("abc", five + [("S", "AAB")])
        self.assertEqual(len(closure(fifty, "S").products()), 50)
        self.assertEqual(len(closure(Grammar("abc", five + [("S", "AAB"), ("S", "cc")]), "S").products()), 50)
        self.check_limit(Grammar("abc", five + [("S", "AAB"), ("S", "ccc")]), "S", "AB")
        self.check_limit(Grammar("abc", five + [("S", "AAB"), ("B", "c")]), "S", "AB")
        linear = Grammar("abc", five + [("S", "AAB"), ("S", "Sc")])
        self.assertEqual(len(closure(linear, "S").products()), 50)
        self.assertEqual(side_letters(linear, "S"), ("", "c"))
        self.check_limit(Grammar("abc", five + [("S", "AAB"), ("S", "Sc"), ("S", "ccc")]), "S", "AB")
        self.check_limit(Grammar("abc", five + [("S", "AAB"), ("T", "S"), ("T", "")]), "", "ABST")
        self.check_limit(Grammar("abc", five + [("S", "AAB"), ("T", "S"), ("T", "ccc")]), "T", "ABS")

    def test_drawn_near_the_limit(self):
        source = random.Random(98)
        seen = {"over": 0, "under": 0, "many": 0}
        for _ in range(120):
            rows = [("A", "a"), ("A", "b"), ("B", "AA"), ("B", source.choice(["c", "AA", "ac"]))]
            pools = [("C", "AB"), ("D", "ABC"), ("E", "ABCD")]
            for symbol, pool in pools:
                for _ in range(source.choice([1, 1, 2, 3])):
                    items = "".join(source.choice(pool + "abc"[:source.randrange(1, 4)]) for _ in range(source.choice([1, 2, 3])))
                    if source.random() < 0.15:
                        items = source.choice([symbol + items[:2], items[:2] + symbol, symbol + symbol])
                    rows.append((symbol, items))
            grammar = Grammar("abc", rows)
            slow, numbers, sides = slow_closures(grammar)
            for symbol in grammar.symbols():
                if numbers.get(symbol, 0) > 50:
                    self.check_limit(grammar, symbol)
                    seen["over"] += 1
                else:
                    self.assertEqual(closure(grammar, symbol).products(), slow.get(symbol, []), (rows, symbol))
                    self.assertEqual(side_letters(grammar, symbol), sides.get(symbol))
                    seen["under"] += 1
                    seen["many"] += numbers.get(symbol, 0) > 20
        self.assertGreater(min(seen.values()), 5, seen)


class TestLongProducts(unittest.TestCase):

    def test_as_long_as_can_be(self):
        chain = [(one, other * 3) for one, other in zip("ABCDE", "BCDEF")]
        grammar = Grammar("abc", chain + [("F", "abc")])
        self.assertEqual(ranks(grammar)["A"], 6)
        self.assertEqual(closure(grammar, "A"), closure_of_words("abc", ["abc" * 243]))
        self.assertTrue(closure(grammar, "A").contains("cba" * 121))
        self.assertFalse(closure(grammar, "A").contains("cba" * 122))


class TestExpressionsAndGrammars(unittest.TestCase):

    def test_the_same_words(self):
        tried, kinds = 0, set()
        for alphabet in ["ab", "abc"]:
            for choice in some_choices(random.Random(99), alphabet, 2, 400):
                productions = productions_of_expression(choice)
                if productions is None:
                    continue
                tried += 1
                grammar = Grammar(alphabet, productions)
                kinds |= set(component_kinds(grammar))
                expected = closure_of_expression(alphabet, text_of(choice))
                self.assertEqual(closure(grammar, "A").products(), expected.products(), text_of(choice))
        self.assertGreater(tried, 60)
        self.assertEqual(kinds, {"single", "linear", "branching"})


def productions_of_expression(choice):
    """Productions by which A derives the words of a choice, or None if they are too many."""
    productions, symbols = [], list("FEDCBA")

    def derive_choice(symbol, rows):
        for row in rows:
            derive_row(symbol, row)

    def derive_row(symbol, row):
        items = "".join(derive_item(operand, signs) for operand, signs in row)
        while len(items) > 3:
            rest = symbols.pop()
            productions.append((rest, items[-2:]))
            items = items[:-2] + rest
        productions.append((symbol, items))

    def derive_item(operand, signs):
        item = operand.strip("()") if isinstance(operand, str) else symbols.pop()
        if not isinstance(operand, str):
            derive_choice(item, operand)
        for sign in signs:
            symbol = symbols.pop()
            if sign == "?":
                productions.extend([(symbol, item), (symbol, "")])
            elif sign == "*":
                productions.extend([(symbol, item + symbol), (symbol, "")])
            else:
                productions.extend([(symbol, symbol + symbol), (symbol, item)])
            item = symbol
        return item

    try:
        derive_choice(symbols.pop(), choice)
    except IndexError:
        return None
    return productions if len(productions) <= 16 else None


if __name__ == "__main__":
    unittest.main()
