"""Points [3], [16] and [17]: minimal excluded words, and languages that avoid words."""

import itertools
import random
import time
import unittest

from downwords.errors import TooLarge
from downwords.excluded import avoiding, excluded_words
from downwords.languages import Language, is_subset, parse_language
from downwords.operations import union
from downwords.products import format_product, is_included, unfold
from downwords.words import is_subword, minimal_words
from support import (
    all_products, all_words, check_one_list, edge_languages, in_shortlex, large_language, raised, some_languages,
    some_products, words_of,
)


def slow_excluded(language, most):
    """The minimal excluded words with at most so many letters, by searching through all words."""
    words = words_of(language.products(), language.alphabet(), most)
    found = []
    for word in all_words(language.alphabet(), most):
        if word not in words and all(word[:at] + word[at + 1:] in words for at in range(len(word))):
            found.append(word)
    return found


def languages_of_one_product(alphabet, size, many, seed):
    return [Language(alphabet, [product]) for product in some_products(alphabet, size, many, seed)]


def small_languages():
    """Languages whose products together have at most 6 factors, if there are several."""
    return edge_languages("a") + edge_languages("ab") + edge_languages("abc") \
        + some_languages("ab", (3, 3), 30, 61) + some_languages("abc", (2, 2, 2), 30, 62) \
        + some_languages("abc", (1, 2, 3), 30, 63) + some_languages("abc", (4, 2), 20, 64) \
        + some_languages("abc", (5, 1), 10, 65)


def lists_of_words(alphabet, letters, many, seed):
    """Some lists of words with so many letters together."""
    source = random.Random(seed)
    lists = []
    for _ in range(many):
        words = []
        left = letters
        while left > 0:
            size = source.randint(1, min(left, source.choice([2, 3, 5, 9])))
            words.append("".join(source.choice(alphabet) for _ in range(size)))
            left -= size
        lists.append(words)
    return lists


class TestExcludedWords(unittest.TestCase):

    def check_words(self, language, found):
        """The words are excluded, minimal, in shortlex order, and exclude what is not in the Language."""
        self.assertIs(type(found), list)
        self.assertEqual(found, in_shortlex(set(found)))
        for word in found:
            self.assertFalse(language.contains(word))
            for at in range(len(word)):
                self.assertTrue(language.contains(word[:at] + word[at + 1:]))

    def check_none_is_missing(self, language, found, words):
        for word in words:
            excluded = any(is_subword(short, word) for short in found)
            self.assertIs(language.contains(word), not excluded, (str(language), word))

    def test_against_a_search(self):
        for language in small_languages():
            found = excluded_words(language)
            self.check_words(language, found)
            most = 7 if len(language.alphabet()) < 3 else 5
            self.assertEqual([word for word in found if len(word) <= most], slow_excluded(language, most))

    def test_all_short_products(self):
        for product in all_products("ab", 3):
            language = Language("ab", [product])
            self.assertEqual(excluded_words(language), slow_excluded(language, 5))

    def test_one_product_of_up_to_12_factors(self):
        for size in range(4, 13):
            for language in languages_of_one_product("abc", size, 6, 600 + size):
                found = excluded_words(language)
                self.check_words(language, found)
                self.check_none_is_missing(language, found, all_words("abc", 5))

    def test_none_is_missing_among_longer_words(self):
        for language in small_languages()[::4]:
            found = excluded_words(language)
            words = [word for word in all_words("ab", 9) if set(word) <= set(language.alphabet())]
            self.check_none_is_missing(language, found, words)

    def test_edges(self):
        for alphabet in ["a", "ab", "abc"]:
            self.assertEqual(excluded_words(Language(alphabet, [])), [""])
            self.assertEqual(excluded_words(Language(alphabet, [()])), list(alphabet))
            self.assertEqual(excluded_words(Language(alphabet, [(("star", alphabet),)])), [])
        self.assertEqual(excluded_words(parse_language("abc: {ab}*")), ["c"])
        self.assertEqual(excluded_words(parse_language("ab: {a}* + {b}*")), ["ab", "ba"])
        self.assertEqual(excluded_words(parse_language("abc: a? + b? + c?")),
                         ["aa", "ab", "ac", "ba", "bb", "bc", "ca", "cb", "cc"])
        self.assertEqual(excluded_words(parse_language("a: " + "a?" * 12)), ["a" * 13])

    def limit(self, language):
        fields = raised(TooLarge, excluded_words, language)
        return None if fields is None else fields["limit"]

    def test_the_limit_of_one_product(self):
        for seed in range(6):
            self.assertIsNone(self.limit(large_language("abc", (12,), seed)))
            self.assertEqual(self.limit(large_language("abc", (13,), seed)), 12)
            self.assertEqual(self.limit(large_language("abc", (30,), seed)), 12)
        self.assertEqual(self.limit(parse_language("a: " + "a?" * 13)), 12)

    def test_the_limit_of_several_products(self):
        for sizes in [(3, 3), (1, 5), (2, 2, 2), (4, 2), (1, 1, 4)]:
            self.assertIsNone(self.limit(large_language("abc", sizes, 7)))
        for sizes in [(4, 3), (1, 6), (3, 2, 2), (6, 6), (12, 1), (13, 13), (2, 2, 2, 2)]:
            self.assertEqual(self.limit(large_language("abc", sizes, 7)), 6)

    def test_answers_at_the_limits(self):
        forms = ["a?b?c?" * 4, "{ab}*c?" * 6, "{ab}*{bc}*{ac}*" * 4, "{ab}*{c}*" * 6, "b?c?a?c?b?c?b?a?c?a?c?a?",
                 "{ab}*{c}* + {ac}*{b}* + {bc}*{a}*", "{ab}* + {bc}* + {c}*{b}*{a}*", "a?b?c? + c?b?a?"]
        begin = time.monotonic()
        for form in forms:
            self.assertIsNone(self.limit(parse_language("abc: " + form)))
        self.assertLess(time.monotonic() - begin, 10)

    def test_the_list_is_new(self):
        language = parse_language("ab: a?b?")
        excluded_words(language).clear()
        excluded_words(Language("ab", [])).clear()
        self.assertEqual(excluded_words(language), ["aa", "ba", "bb"])
        self.assertEqual(excluded_words(Language("ab", [])), [""])

    def test_example(self):
        self.assertEqual(excluded_words(parse_language("ab: a?b?")), ["aa", "ba", "bb"])


class TestAvoiding(unittest.TestCase):

    def check_avoiding(self, alphabet, words, most):
        before = list(words)
        language = avoiding(alphabet, words)
        self.assertEqual(words, before)
        self.assertEqual(language.alphabet(), alphabet)
        for word in all_words(alphabet, most):
            expected = not any(is_subword(short, word) for short in words)
            self.assertIs(language.contains(word), expected, (words, word))
        return language

    def check_largest(self, language, words, candidates):
        """A product is inside exactly if none of the words is a subword of its long unfolding."""
        for product in language.products():
            self.assertFalse(any(is_subword(word, unfold(product, 15)) for word in words))
        for product in candidates:
            inside = any(is_included(product, other) for other in language.products())
            self.assertIs(inside, not any(is_subword(word, unfold(product, 15)) for word in words))

    def test_against_short_words(self):
        candidates = all_products("abc", 2)
        for letters in range(1, 15):
            for words in lists_of_words("abc", letters, 12, 700 + letters):
                language = self.check_avoiding("abc", words, 5)
                check_one_list(self, language)
                self.check_largest(language, words, candidates)

    def test_smaller_alphabets(self):
        for letters in range(1, 15):
            for words in lists_of_words("ab", letters, 8, 720 + letters):
                check_one_list(self, self.check_avoiding("ab", words, 7))
            for words in lists_of_words("a", letters, 3, 740 + letters):
                check_one_list(self, self.check_avoiding("a", words, 15))

    def test_all_pairs_of_short_words(self):
        words = all_words("ab", 3)
        candidates = all_products("ab", 3)[::5]
        for pair in itertools.product(words, repeat=2):
            language = self.check_avoiding("ab", list(pair), 5)
            check_one_list(self, language)
            self.check_largest(language, pair, candidates)

    def test_edges(self):
        for alphabet in ["a", "ab", "abc"]:
            self.assertIs(avoiding(alphabet, []).is_full(), True)
            self.assertIs(avoiding(alphabet, [""]).is_empty(), True)
            self.assertIs(avoiding(alphabet, ["a", "", "aa"]).is_empty(), True)
            self.assertEqual(avoiding(alphabet, list(alphabet)), Language(alphabet, [()]))
        self.assertEqual(str(avoiding("ab", ["a"])), "ab: {b}*")
        self.assertEqual(str(avoiding("abc", ["a", "ab", "cca"])), "abc: {bc}*")
        self.assertEqual(str(avoiding("a", ["aaa"])), "a: a?a?")
        self.assertEqual(avoiding("ab", ("ba", "aab")), avoiding("ab", ["aab", "ba"]))

    def test_order_and_duplicates(self):
        for words in lists_of_words("abc", 7, 20, 760):
            language = avoiding("abc", words)
            self.assertEqual(avoiding("abc", words[::-1]), language)
            self.assertEqual(avoiding("abc", words + words), language)
            self.assertEqual(avoiding("abc", minimal_words(words)), language)

    def test_the_limit(self):
        for words in [["a" * 15], ["a" * 7, "b" * 8], ["a"] * 15, ["ab"] * 7 + ["c"], ["abc", "abc"] * 3,
                      ["", "a" * 15], ["a" * 15, ""], ["", "a"] * 15, ["abcab"] * 3, ["a", "ab" * 7], ["c" * 40]]:
            self.assertEqual(raised(TooLarge, avoiding, "abc", words), {"limit": 14})
        for words in [["a" * 14], ["a" * 7, "b" * 7], ["a"] * 14, ["ab"] * 7, ["", "a" * 14], [""] * 20, ["abcabca"] * 2]:
            self.assertIsNone(raised(TooLarge, avoiding, "abc", words))

    def test_14_letters_with_many_products(self):
        begin = time.monotonic()
        two = avoiding("abc", ["a" * 7, "b" * 7])
        three = avoiding("abc", ["a" * 5, "b" * 5, "c" * 4])
        self.assertLess(time.monotonic() - begin, 15)
        # These are all the ways to arrange 6 letters a and 6 letters b, with the star of c around each.
        self.assertEqual(len(set(two.products())), 924)
        for product in two.products():
            self.assertEqual(product[::2], (("star", "c"),) * 13)
            self.assertEqual(sorted(product[1::2]), [("opt", letter) for letter in "aaaaaabbbbbb"])
        # These are all the ways to arrange 4 letters a, 4 letters b and 3 letters c.
        self.assertEqual(len(set(three.products())), 11550)
        for product in three.products():
            self.assertEqual(sorted(product), [("opt", letter) for letter in "aaaabbbbccc"])
        for language in [two, three]:
            forms = [format_product(product) for product in language.products()]
            self.assertEqual(forms, sorted(forms))
            self.assertEqual(language, Language("abc", language.products()[::-1]))

    def test_14_letters(self):
        begin = time.monotonic()
        for words in lists_of_words("abc", 14, 200, 770):
            avoiding("abc", words)
        self.assertLess(time.monotonic() - begin, 15)

    def test_example(self):
        self.assertEqual(str(avoiding("ab", ["ba", "aab"])), "ab: a?{b}* + {a}*")


class TestThereAndBack(unittest.TestCase):

    def test_from_languages(self):
        many = 0
        languages = small_languages() + languages_of_one_product("abc", 3, 30, 81) \
            + languages_of_one_product("ab", 4, 30, 82) + languages_of_one_product("a", 5, 5, 83)
        for language in languages:
            words = excluded_words(language)
            if sum(len(word) for word in words) <= 14:
                many += 1
                back = avoiding(language.alphabet(), words)
                self.assertEqual(back, language)
                self.assertEqual(back.products(), language.products())
        self.assertGreater(many, 60)

    def test_from_words(self):
        many = 0
        for letters in range(15):
            for alphabet in ["a", "ab", "abc"]:
                for words in lists_of_words(alphabet, letters, 25, 800 + letters):
                    language = avoiding(alphabet, words)
                    sizes = [len(product) for product in language.products()]
                    if sum(sizes) <= (12 if len(sizes) == 1 else 6):
                        many += 1
                        self.assertEqual(excluded_words(language), minimal_words(words))
        self.assertGreater(many, 200)
        self.assertEqual(excluded_words(avoiding("ab", [])), [])
        self.assertEqual(excluded_words(avoiding("ab", ["a", ""])), [""])

    def test_more_words_less_language(self):
        for words in lists_of_words("abc", 12, 40, 820):
            part = avoiding("abc", words[1:])
            self.assertIs(is_subset(avoiding("abc", words), part), True)
            self.assertEqual(union(avoiding("abc", words), part), part)


if __name__ == "__main__":
    unittest.main()
