"""Points [2] and [12]: operations on Languages."""

import itertools
import time
import unittest

from downwords.errors import AlphabetMismatch, TooLarge
from downwords.languages import Language, closure_of_words, is_subset, parse_language
from downwords.operations import (
    concatenation, derivative, intersection, residual, reversal, shuffle, star, union,
)
from downwords.products import common_part, parse_product, unfold
from support import (
    all_products, all_words, check_one_list, edge_languages, large_language, raised, some_languages,
    some_products, words_of,
)

TWO = {
    "union": union, "intersection": intersection, "concatenation": concatenation, "shuffle": shuffle,
    "residual": residual,
}


def small_languages():
    """Small Languages over two letters; two of them together have at most 8 factors."""
    return edge_languages("ab") + some_languages("ab", (2, 2), 14, 21) + some_languages("ab", (3, 1), 14, 22)


def language_of(alphabet, form):
    return parse_language(f"{alphabet}: {form}")


def divided(word):
    """All pairs of words between which the letters of a word can be divided, each in order."""
    pairs = {("", "")}
    for letter in word:
        pairs = {(one + letter, other) for one, other in pairs} | {(one, other + letter) for one, other in pairs}
    return pairs


def is_row_of(word, words):
    """Whether a word is a concatenation of some words."""
    ends = [True]
    for end in range(1, len(word) + 1):
        ends.append(any(ends[start] and word[start:end] in words for start in range(end)))
    return ends[len(word)]


class OperationTest(unittest.TestCase):

    def check_words(self, found, alphabet, most, expected):
        """The result has exactly the expected short words, in its one list."""
        self.assertIs(type(found), Language)
        self.assertEqual(found.alphabet(), alphabet)
        check_one_list(self, found)
        self.assertEqual(words_of(found.products(), alphabet, most), set(expected))


class TestAgainstShortWords(OperationTest):

    def setUp(self):
        self.languages = small_languages()
        self.words = all_words("ab", 4)
        self.found = {str(language): words_of(language.products(), "ab", 4) for language in self.languages}

    def pairs(self):
        for one, other in itertools.product(self.languages, repeat=2):
            yield one, other, self.found[str(one)], self.found[str(other)]

    def test_union(self):
        for one, other, left, right in self.pairs():
            self.check_words(union(one, other), "ab", 4, left | right)
            self.assertEqual(union(one, other), union(other, one))

    def test_intersection(self):
        for one, other, left, right in self.pairs():
            self.check_words(intersection(one, other), "ab", 4, left & right)
            self.assertEqual(intersection(one, other), intersection(other, one))

    def test_concatenation(self):
        for one, other, left, right in self.pairs():
            expected = [word for word in self.words
                        if any(word[:at] in left and word[at:] in right for at in range(len(word) + 1))]
            self.check_words(concatenation(one, other), "ab", 4, expected)

    def test_shuffle(self):
        parts = {word: divided(word) for word in self.words}
        for one, other, left, right in self.pairs():
            expected = [word for word in self.words
                        if any(first in left and second in right for first, second in parts[word])]
            self.check_words(shuffle(one, other), "ab", 4, expected)
            self.assertEqual(shuffle(one, other), shuffle(other, one))

    def test_residual(self):
        # Words of 8 letters of the first one are enough: the products of the second one have at most 3 factors.
        starts = {str(one): words_of(one.products(), "ab", 8) for one in self.languages}
        long = {str(one): words_of(one.products(), "ab", 11) for one in self.languages}
        words = all_words("ab", 3)
        for one, other, _, _ in self.pairs():
            ends = long[str(other)]
            expected = set(words)
            for start in starts[str(one)]:
                expected = {word for word in expected if start + word in ends}
            self.check_words(residual(one, other), "ab", 3, expected)

    def test_reversal(self):
        for language in self.languages:
            expected = [word[::-1] for word in self.found[str(language)]]
            self.check_words(reversal(language), "ab", 4, expected)
            self.assertEqual(reversal(reversal(language)), language)

    def test_star(self):
        for language in self.languages:
            expected = [word for word in self.words if is_row_of(word, self.found[str(language)])]
            self.check_words(star(language), "ab", 4, expected)
            self.assertEqual(star(star(language)), star(language))

    def test_derivative(self):
        long = {str(language): words_of(language.products(), "ab", 7) for language in self.languages}
        for language, start in itertools.product(self.languages, all_words("ab", 3)):
            expected = [word for word in self.words if start + word in long[str(language)]]
            self.check_words(derivative(language, start), "ab", 4, expected)


class TestThreeLetters(OperationTest):

    def setUp(self):
        self.languages = edge_languages("abc") + some_languages("abc", (3, 4, 2), 6, 31) \
            + some_languages("abc", (5, 5), 5, 32) + some_languages("abc", (2, 2, 2, 2), 5, 33)
        self.words = all_words("abc", 4)
        self.found = {str(language): words_of(language.products(), "abc", 4) for language in self.languages}

    def pairs(self):
        for one, other in itertools.product(self.languages, repeat=2):
            yield one, other, self.found[str(one)], self.found[str(other)]

    def test_union_and_intersection(self):
        for one, other, left, right in self.pairs():
            self.check_words(union(one, other), "abc", 4, left | right)
            self.check_words(intersection(one, other), "abc", 4, left & right)
            self.assertEqual(intersection(other, one), intersection(one, other))

    def test_intersection_is_the_largest(self):
        candidates = [Language("abc", [product]) for product in all_products("abc", 2)[::3]]
        candidates += [Language("abc", [product]) for product in some_products("abc", 4, 60, 36)]
        for one, other in itertools.product(self.languages[::2], self.languages[1::2]):
            both = intersection(one, other)
            self.assertIs(is_subset(both, one) and is_subset(both, other), True)
            for candidate in candidates + [one, other]:
                expected = is_subset(candidate, one) and is_subset(candidate, other)
                self.assertIs(is_subset(candidate, both), expected)

    def test_intersection_and_common_parts(self):
        for one, other, _, _ in self.pairs():
            parts = []
            for product, partner in itertools.product(one.products(), other.products()):
                parts += common_part(product, partner)
            self.assertEqual(intersection(one, other), Language("abc", parts))

    def test_concatenation(self):
        for one, other, left, right in self.pairs():
            found = concatenation(one, other)
            expected = [word for word in self.words
                        if any(word[:at] in left and word[at:] in right for at in range(len(word) + 1))]
            self.check_words(found, "abc", 4, expected)
            rows = [first + second for first, second in itertools.product(one.products(), other.products())]
            self.assertEqual(found, Language("abc", rows))

    def test_concatenation_with_stars_that_meet(self):
        forms = ["{a}* + {b}*", "a?{b}* + b?{a}*", "{ab}*c? + {ac}*b?", "b?{c}* + c?{ab}*", "{ab}*{c}* + {c}*{ab}*",
                 "a?c? + b?c?", "a?b? + b?a?", "{c}*a? + {c}*b?", "a?{bc}* + b?{ac}* + c?{ab}*", "{abc}*", "-", "none"]
        for one, other in itertools.product([language_of("abc", form) for form in forms], repeat=2):
            rows = [first + second for first, second in itertools.product(one.products(), other.products())]
            found = concatenation(one, other)
            check_one_list(self, found)
            self.assertEqual(found, Language("abc", rows))

    def test_concatenation_of_all_short_products(self):
        products = all_products("ab", 2)
        languages = [Language("ab", [one, other]) for one, other in zip(products, products[7:] + products[:7])]
        for one, other in itertools.product(languages, repeat=2):
            rows = [first + second for first, second in itertools.product(one.products(), other.products())]
            self.assertEqual(concatenation(one, other), Language("ab", rows))

    def test_shuffle(self):
        parts = {word: divided(word) for word in self.words}
        languages = edge_languages("abc")[:6] + some_languages("abc", (2, 1), 8, 34) + some_languages("abc", (4,), 6, 35)
        found = {str(language): words_of(language.products(), "abc", 4) for language in languages}
        for one, other in itertools.product(languages, repeat=2):
            expected = [word for word in self.words if any(
                first in found[str(one)] and second in found[str(other)] for first, second in parts[word])]
            self.check_words(shuffle(one, other), "abc", 4, expected)
            self.assertEqual(shuffle(one, other), shuffle(other, one))

    def test_shuffle_of_longer_words(self):
        words = all_words("ab", 7)
        parts = {word: divided(word) for word in words}
        for one, other in zip(some_languages("ab", (2, 2), 12, 37), some_languages("ab", (3,), 12, 38)):
            left, right = words_of(one.products(), "ab", 7), words_of(other.products(), "ab", 7)
            expected = [word for word in words
                        if any(first in left and second in right for first, second in parts[word])]
            self.check_words(shuffle(one, other), "ab", 7, expected)

    def test_derivative_is_a_residual(self):
        for language, word in itertools.product(self.languages, ["", "a", "cb", "abcab", "bbbbbbbb"]):
            self.assertEqual(derivative(language, word), residual(closure_of_words("abc", [word]), language))

    def test_residual(self):
        # A word that follows a long unfolding follows all words of the product.
        words = all_words("abc", 3)
        for one, other, _, _ in self.pairs():
            starts = [unfold(product, 7) for product in one.products()]
            expected = [word for word in words if all(other.contains(start + word) for start in starts)]
            self.check_words(residual(one, other), "abc", 3, expected)

    def test_derivative(self):
        starts = all_words("abc", 2) + ["abcabc", "aaaaaaaa", "cbacbacba", "bcbcbcbcbc", "a" * 40, "abc" * 20]
        for language, start in itertools.product(self.languages, starts):
            expected = [word for word in self.words if language.contains(start + word)]
            self.check_words(derivative(language, start), "abc", 4, expected)


class TestNamedEdges(OperationTest):

    def setUp(self):
        self.none, self.empty, self.full = [language_of("ab", form) for form in ["none", "-", "{ab}*"]]
        self.languages = small_languages()

    def test_the_language_without_words(self):
        for language in self.languages:
            self.assertEqual(union(language, self.none), language)
            for operation in [intersection, concatenation, shuffle]:
                self.assertEqual(operation(language, self.none), self.none)
                self.assertEqual(operation(self.none, language), self.none)
            self.assertEqual(residual(self.none, language), self.full)
            expected = self.full if language.is_empty() else self.none
            self.assertEqual(residual(language, self.none), expected)
        self.assertEqual(star(self.none), self.empty)
        self.assertEqual(reversal(self.none), self.none)
        self.assertEqual(derivative(self.none, ""), self.none)
        self.assertEqual(derivative(self.none, "ab"), self.none)

    def test_the_empty_word(self):
        for language in self.languages:
            for operation in [concatenation, shuffle]:
                self.assertEqual(operation(language, self.empty), language)
                self.assertEqual(operation(self.empty, language), language)
            self.assertEqual(residual(self.empty, language), language)
            self.assertEqual(derivative(language, ""), language)
            if not language.is_empty():
                self.assertEqual(union(language, self.empty), language)
                self.assertEqual(intersection(language, self.empty), self.empty)
        self.assertEqual(star(self.empty), self.empty)
        self.assertEqual(derivative(self.empty, "a"), self.none)
        self.assertEqual(reversal(self.empty), self.empty)

    def test_the_full_language(self):
        for language in self.languages:
            self.assertEqual(union(language, self.full), self.full)
            self.assertEqual(intersection(language, self.full), language)
            self.assertEqual(residual(language, self.full), self.full)
            if not language.is_empty():
                self.assertEqual(concatenation(language, self.full), self.full)
                self.assertEqual(concatenation(self.full, language), self.full)
                self.assertEqual(shuffle(self.full, language), self.full)
        self.assertEqual(star(self.full), self.full)
        self.assertEqual(reversal(self.full), self.full)
        self.assertEqual(derivative(self.full, "abba" * 20), self.full)

    def test_derivative_by_words_outside(self):
        language = language_of("ab", "a?b?{a}* + {b}*")
        for word in all_words("ab", 5):
            self.assertIs(derivative(language, word).is_empty(), not language.contains(word))
        self.assertEqual(str(derivative(language, "b" * 300)), "ab: {b}*")
        self.assertEqual(str(derivative(language, "ab" + "a" * 300)), "ab: {a}*")

    def test_derivative_step_by_step(self):
        for language, (one, other) in itertools.product(self.languages, [("a", "b"), ("ab", "a"), ("", "bb")]):
            self.assertEqual(derivative(derivative(language, one), other), derivative(language, one + other))

    def test_residual_and_concatenation(self):
        three = some_languages("ab", (2, 1), 12, 41) + edge_languages("ab")
        for one, two in itertools.product(three, repeat=2):
            rest = residual(one, two)
            self.assertIs(is_subset(concatenation(one, rest), two), True)
            for third in three:
                inside = is_subset(concatenation(one, third), two)
                self.assertIs(is_subset(third, rest), inside, (str(one), str(two), str(third)))

    def test_residual_and_concatenation_of_three_letters(self):
        ones = some_languages("abc", (1, 2), 12, 42)
        twos = some_languages("abc", (5, 4, 6), 12, 43)
        for one, two, third in itertools.product(ones, twos, some_languages("abc", (2, 1), 8, 44)):
            inside = is_subset(concatenation(one, third), two)
            self.assertIs(is_subset(third, residual(one, two)), inside)

    def test_reversal_turns_concatenation(self):
        for one, other in itertools.product(self.languages[::2], repeat=2):
            turned = concatenation(reversal(other), reversal(one))
            self.assertEqual(reversal(concatenation(one, other)), turned)

    def test_same_object_twice(self):
        for language in self.languages:
            self.assertEqual(union(language, language), language)
            self.assertEqual(intersection(language, language), language)
            check_one_list(self, residual(language, language))

    def test_arguments_stay(self):
        one, other = language_of("ab", "a?{b}* + b?a?"), language_of("ab", "a?b?a?")
        before = [str(one), str(other)]
        for operation in TWO.values():
            operation(one, other).products().clear()
        for operation in [reversal, star]:
            operation(one).products().clear()
        derivative(one, "a").products().clear()
        self.assertEqual([str(one), str(other)], before)
        self.assertEqual(str(union(one, other)), "ab: a?b?a? + a?{b}*")
        self.assertEqual(str(one), "ab: a?{b}* + b?a?")

    def test_examples(self):
        one, other = language_of("ab", "{a}*b?"), language_of("ab", "a?b?a?")
        self.assertEqual(str(intersection(one, other)), "ab: a?a? + a?b?")
        self.assertEqual(str(concatenation(one, other)), "ab: {a}*b?a?b?a?")
        self.assertEqual(str(shuffle(language_of("ab", "a?"), language_of("ab", "b?"))), "ab: a?b? + b?a?")
        self.assertEqual(str(derivative(one, "ab")), "ab: -")
        self.assertEqual(str(residual(language_of("ab", "a? + b?"), other)), "ab: a?")
        third = language_of("abc", "a?{b}*")
        self.assertEqual(str(reversal(third)), "abc: {b}*a?")
        self.assertEqual(str(star(third)), "abc: {ab}*")
        self.assertEqual(str(union(third, language_of("abc", "a?"))), "abc: a?{b}*")


class TestLimits(OperationTest):

    def limit(self, operation, one, other):
        """The limit of the TooLarge that is raised, or None."""
        fields = raised(TooLarge, operation, one, other)
        return None if fields is None else fields["limit"]

    def test_other_alphabets_first(self):
        long = Language("abc", [parse_product("a?b?" * 20)])
        many = large_language("abc", (8, 8, 8, 8), 1)
        for name, operation in TWO.items():
            for one in edge_languages("ab") + [Language("ab", [parse_product("a?b?" * 20)])]:
                for other in [long, many, Language("abc", []), Language("ac", [()])]:
                    self.assertEqual(raised(AlphabetMismatch, operation, one, other), {}, name)
                    self.assertEqual(raised(AlphabetMismatch, operation, other, one), {}, name)

    def test_products_of_more_than_eight_factors(self):
        nine = Language("abc", [parse_product("a?b?c?" * 3)])
        both = Language("abc", [parse_product("a?b?c?" * 3), parse_product("c?c?c?c?")])
        many = large_language("abc", (9, 8, 8, 8), 2)
        small = large_language("abc", (8, 8, 8), 3)
        wide = large_language("abc", (7, 7, 7, 7), 4)
        for operation in [intersection, residual]:
            for large in [nine, both, many]:
                for other in [small, wide, nine, many, Language("abc", []), Language("abc", [()])]:
                    self.assertEqual(self.limit(operation, large, other), 8)
                    self.assertEqual(self.limit(operation, other, large), 8)

    def test_more_than_24_factors(self):
        small = large_language("abc", (8, 8, 8), 5)
        for seed, sizes in enumerate([(8, 8, 8, 1), (7, 6, 6, 6), (5, 5, 5, 5, 5), (8, 8, 8, 8)]):
            wide = large_language("abc", sizes, seed)
            for operation in [intersection, residual]:
                for other in [small, wide, Language("abc", []), Language("abc", [()])]:
                    self.assertEqual(self.limit(operation, wide, other), 24)
                    self.assertEqual(self.limit(operation, other, wide), 24)

    def test_answers_at_the_limits(self):
        sizes = [(8, 8, 8), (6, 6, 6, 6), (4, 4, 4, 4, 4, 4), (3,) * 8]
        languages = [large_language("abc", row, seed) for seed, row in enumerate(sizes)]
        languages.append(language_of("abc", "a?{b}* + a?{c}* + b?{a}* + b?{c}* + c?{a}* + c?{b}* + "
                                     "{a}*b? + {a}*c? + {b}*a? + {b}*c? + {c}*a? + {c}*b?"))
        languages.append(language_of("abc", "{ab}*{ac}*{ab}*{ac}*{ab}*{ac}*{ab}*{ac}* + "
                                     "{ac}*{bc}*{ac}*{bc}*{ac}*{bc}*{ac}*{bc}* + "
                                     "{bc}*{ab}*{bc}*{ab}*{bc}*{ab}*{bc}*{ab}*"))
        begin = time.monotonic()
        found = {}
        for at, place in itertools.product(range(len(languages)), repeat=2):
            found[at, place] = intersection(languages[at], languages[place])
            found[at, place, "residual"] = residual(languages[at], languages[place])
        self.assertLess(time.monotonic() - begin, 20)
        words = all_words("abc", 4)
        for at, place in itertools.product(range(len(languages)), repeat=2):
            one, other, both = languages[at], languages[place], found[at, place]
            for word in words:
                self.assertIs(both.contains(word), one.contains(word) and other.contains(word))
            check_one_list(self, both)
            rest = found[at, place, "residual"]
            starts = [unfold(product, 9) for product in one.products()]
            for word in words:
                self.assertIs(rest.contains(word), all(other.contains(start + word) for start in starts))

    def test_residuals_with_many_products(self):
        pairs = [
            ("{ab}* + {ac}* + {bc}*", "{ab}*{ac}*{ab}*{ac}*{ab}*{ac}*{ab}*{ac}* + "
             "{ac}*{bc}*{ac}*{bc}*{ac}*{bc}*{ac}*{bc}* + {bc}*{ab}*{bc}*{ab}*{bc}*{ab}*{bc}*{ab}*"),
            ("b?c?b? + {a}*b? + {a}*{c}*a? + {b}*{c}*", "{ab}*c?{ab}*{bc}*{ab}*{bc}*{ab}*c? + "
             "{ac}*{ab}*{ac}*{ab}*{ac}*{ab}*{ac}*{b}* + {bc}*{a}*{bc}*a?{bc}*a?{bc}*a?"),
            ("a?a? + a?{b}* + a?{c}* + b?b?{c}* + c?{b}* + {b}*a?c?b? + {c}*b?a?b?b? + {c}*b?a?c?",
             "{ab}*{ac}*{bc}*{ac}* + {ab}*{c}*{ab}*{ac}* + {ac}*{ab}*{bc}* + {ac}*{ab}*{c}*{ab}* + "
             "{a}*{bc}*{ab}* + {a}*{b}*{ac}*{b}*{ac}*{b}*"),
        ]
        for one, other in pairs:
            one, other = language_of("abc", one), language_of("abc", other)
            begin = time.monotonic()
            rest = residual(one, other)
            self.assertLess(time.monotonic() - begin, 5)
            check_one_list(self, rest)
            self.assertTrue(is_subset(concatenation(one, rest), other))
            starts = [unfold(product, 9) for product in one.products()]
            for word in all_words("abc", 6):
                self.assertIs(rest.contains(word), all(other.contains(start + word) for start in starts))

    def test_shuffle(self):
        right = [("-", "a?b?c?a?b?c?a?b?"), ("a?a?a?a?", "b?b?b?b?"), ("{a}*{b}*{a}*{b}*", "{c}*{b}*{c}*{b}*"),
                 ("a? + b? + c?", "a?b?c?b?a?"), ("none", "{a}*b?{a}*b?{a}*b?{a}*b?"), ("{ab}*{c}*{ab}*", "a?b?c?b?a?")]
        for one, other in right:
            one, other = language_of("abc", one), language_of("abc", other)
            check_one_list(self, shuffle(one, other))
            self.assertEqual(shuffle(one, other), shuffle(other, one))
        self.assertEqual(len(shuffle(*[language_of("ab", form) for form in ["a?a?a?a?", "b?b?b?b?"]]).products()), 70)
        wrong = [("-", "a?b?c?a?b?c?a?b?c?"), ("a?a?a?a?", "b?b?b?b?b?"), ("a? + b? + c?", "a?b?c?b?a?b?"),
                 ("none", "{a}*b?{a}*b?{a}*b?{a}*b?{a}*"), ("a?b?c?a?b?c?a?b?c?", "none"), ("a?b? + b?a?", "c?c?c?c?c?")]
        for one, other in wrong:
            one, other = language_of("abc", one), language_of("abc", other)
            self.assertEqual(self.limit(shuffle, one, other), 8)
            self.assertEqual(self.limit(shuffle, other, one), 8)

    def test_union_and_concatenation_have_no_limit(self):
        one = large_language("abc", (12,) * 20 + (9,) * 10, 6)
        other = large_language("abc", (14,) * 20 + (5, 7), 7)
        long = Language("abc", [parse_product("a?{bc}*" * 100)])
        begin = time.monotonic()
        for first, second in itertools.product([one, other, long], repeat=2):
            joined, both = concatenation(first, second), union(first, second)
            self.assertIs(is_subset(first, both) and is_subset(second, both), True)
            self.assertIs(is_subset(first, joined) and is_subset(second, joined), True)
        self.assertLess(time.monotonic() - begin, 20)
        self.assertEqual(len(concatenation(long, long).products()[0]), 400)

    def test_the_others_have_no_limit(self):
        wide = large_language("abc", (12,) * 20, 8)
        self.assertEqual(reversal(reversal(wide)), wide)
        self.assertIs(star(wide).is_full(), True)
        self.assertEqual(derivative(wide, ""), wide)
        self.assertIs(is_subset(derivative(wide, "abc"), wide), True)


if __name__ == "__main__":
    unittest.main()
