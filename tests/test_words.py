"""Points [4] and [5]: words."""

import itertools
import unittest

from downwords.errors import TooLarge
from downwords.words import (
    common_superwords, first_positions, is_alphabet, is_subword, is_word, minimal_words,
)
from support import NOT_TEXTS, ODD_TEXTS, all_subwords, all_words


def shortlex(words):
    return sorted(words, key=lambda word: (len(word), word))


def slow_positions(word, other):
    """All positions of a subword, by trying all rows of indexes."""
    return [
        row for row in itertools.combinations(range(len(other)), len(word))
        if "".join(other[at] for at in row) == word
    ]


def slow_superwords(word, other):
    """The minimal common superwords, by searching through all words."""
    letters = sorted(set(word + other))
    most = len(word) + len(other)
    common = [
        w for w in all_words(letters, most) if {word, other} <= all_subwords(w)
    ]
    found = set(common)
    return [w for w in common if not (all_subwords(w) - {w}) & found]


class TestAlphabets(unittest.TestCase):

    def test_all_short_texts(self):
        letters = "abyz"
        for size in range(5):
            for row in itertools.product(letters, repeat=size):
                text = "".join(row)
                expected = 1 <= size <= 3 and list(row) == sorted(set(row))
                self.assertIs(is_alphabet(text), expected, text)

    def test_named_edges(self):
        for text in ["a", "z", "az", "abc", "xyz", "bdz"]:
            self.assertIs(is_alphabet(text), True, text)
        for text in ["", "ba", "aa", "aab", "abb", "acb", "abcd", "A", "ABC", "aB", "1", "a1", "12"]:
            self.assertIs(is_alphabet(text), False, text)

    def test_other_objects(self):
        for thing in NOT_TEXTS + ODD_TEXTS:
            self.assertIs(is_alphabet(thing), False)

    def test_neighbours_of_the_letters(self):
        for code in list(range(32, 127)) + [10]:
            text = chr(code)
            self.assertIs(is_alphabet(text), text in "abcdefghijklmnopqrstuvwxyz", text)


class TestWords(unittest.TestCase):

    def test_words_of_each_alphabet(self):
        for alphabet in ["a", "b", "ab", "bc", "ac", "abc", "xyz"]:
            for word in all_words("abcx", 3):
                self.assertIs(is_word(alphabet, word), set(word) <= set(alphabet), word)

    def test_named_edges(self):
        self.assertIs(is_word("ab", ""), True)
        self.assertIs(is_word("ab", "ba" * 500), True)
        self.assertIs(is_word("ab", "ba" * 500 + "c"), False)
        self.assertIs(is_word("ab", "c" + "ba" * 500), False)

    def test_other_objects(self):
        for thing in NOT_TEXTS + ODD_TEXTS:
            for alphabet in ["a", "ab", "abc"]:
                self.assertIs(is_word(alphabet, thing), False)

    def test_examples(self):
        answers = [is_word("ab", "abc"), is_word("ab", ""), is_alphabet("ba"), is_alphabet("")]
        self.assertEqual(answers, [False, True, False, False])


class TestSubwords(unittest.TestCase):

    def test_against_all_subwords(self):
        words = all_words("ab", 4) + ["abcab", "cabac", "aabbcc"]
        for other in words:
            below = all_subwords(other)
            for word in words + all_words("c", 2):
                self.assertIs(is_subword(word, other), word in below, (word, other))

    def test_positions_are_the_least(self):
        for other in all_words("ab", 5) + all_words("abc", 3):
            for word in all_words("ab", 4):
                rows = slow_positions(word, other)
                expected = min(rows) if rows else None
                found = first_positions(word, other)
                self.assertEqual(found, expected, (word, other))
                self.assertIn(type(found), (tuple, type(None)))

    def test_related_words(self):
        word = "abcab"
        self.assertIs(is_subword(word, word), True)
        self.assertIs(is_subword("", word), True)
        self.assertIs(is_subword("", ""), True)
        self.assertIs(is_subword("a", ""), False)
        for at in range(len(word)):
            self.assertIs(is_subword(word[:at] + word[at + 1:], word), True)
            self.assertIs(is_subword(word[:at] + "x" + word[at + 1:], word), False)
        for at in range(len(word) + 1):
            self.assertIs(is_subword(word[:at] + "a" + word[at:], word), False)
        self.assertIs(is_subword("cb", word), True)
        self.assertIs(is_subword("cc", word), False)

    def test_long_words(self):
        long = "ab" * 2000
        self.assertIs(is_subword("a" * 2000, long), True)
        self.assertIs(is_subword("a" * 2001, long), False)
        self.assertIs(is_subword("b" * 2000, long), True)
        self.assertIs(is_subword("ba" * 1999 + "b", long), True)
        self.assertIs(is_subword("ba" * 2000, long), False)
        self.assertEqual(first_positions("b" * 2000, long), tuple(range(1, 4000, 2)))
        self.assertIsNone(first_positions(long + "a", long))

    def test_examples(self):
        self.assertEqual([is_subword("ba", "abba"), is_subword("baa", "abba")], [True, False])
        found = [first_positions("ab", "baabb"), first_positions("", "a"), first_positions("aa", "a")]
        self.assertEqual(found, [(1, 3), (), None])


class TestMinimalWords(unittest.TestCase):

    def check(self, words):
        before = list(words)
        found = minimal_words(words)
        self.assertEqual(words, before)
        self.assertIs(type(found), list)
        expected = {
            word for word in words
            if not any(other != word and other in all_subwords(word) for other in words)
        }
        self.assertEqual(found, shortlex(expected))

    def test_against_the_definition(self):
        pool = all_words("ab", 3)
        for words in itertools.combinations(pool, 3):
            self.check(list(words))
            self.check(list(words)[::-1] + list(words))

    def test_longer_lists(self):
        pool = all_words("abc", 4)
        for step in range(3, 40):
            self.check(pool[step::step])
            self.check(pool[:step - 1:-step])

    def test_named_edges(self):
        self.assertEqual(minimal_words([]), [])
        self.assertEqual(minimal_words([""]), [""])
        self.assertEqual(minimal_words(["ab", "", "b"]), [""])
        self.assertEqual(minimal_words(["b", "b", "b"]), ["b"])
        self.assertEqual(minimal_words(["abc", "ab", "a"]), ["a"])
        self.assertEqual(minimal_words(["ba", "ab", "b" * 50, "aa"]), ["aa", "ab", "ba", "b" * 50])

    def test_shortlex_not_alphabetic(self):
        self.assertEqual(minimal_words(["aab", "c", "bb"]), ["c", "bb", "aab"])

    def test_the_result_is_new(self):
        words = ["a", "b"]
        found = minimal_words(words)
        found.append("c")
        self.assertEqual(words, ["a", "b"])
        self.assertEqual(minimal_words(words), ["a", "b"])

    def test_example(self):
        self.assertEqual(minimal_words(["aab", "b", "ab", "aa", "b"]), ["b", "aa"])


class TestCommonSuperwords(unittest.TestCase):

    def test_against_a_search_with_two_letters(self):
        words = all_words("ab", 3)
        for word, other in itertools.combinations_with_replacement(words, 2):
            expected = slow_superwords(word, other)
            self.assertEqual(common_superwords(word, other), expected, (word, other))
            self.assertEqual(common_superwords(other, word), expected, (other, word))

    def test_against_a_search_with_three_letters(self):
        for word, other in [("abc", "cba"), ("abc", "cab"), ("ac", "bca"), ("cb", "ab"), ("bab", "cac")]:
            expected = slow_superwords(word, other)
            self.assertEqual(common_superwords(word, other), expected)
            self.assertEqual(common_superwords(other, word), expected)

    def test_related_words(self):
        self.assertEqual(common_superwords("", ""), [""])
        self.assertEqual(common_superwords("", "abc"), ["abc"])
        self.assertEqual(common_superwords("abc", ""), ["abc"])
        self.assertEqual(common_superwords("abcab", "abcab"), ["abcab"])
        self.assertEqual(common_superwords("acb", "abcab"), ["abcab"])
        self.assertEqual(common_superwords("abcab", "acb"), ["abcab"])

    def test_the_limit(self):
        self.assertEqual(len(common_superwords("aaaaaa", "bbbbbb")), 924)
        self.assertEqual(common_superwords("a" * 12, ""), ["a" * 12])
        self.assertEqual(common_superwords("", "a" * 12), ["a" * 12])
        self.assertEqual(common_superwords("abcabc", "abcabc"), ["abcabc"])
        for word, other in [("a" * 13, ""), ("", "a" * 13), ("abcabca", "abcabc"), ("ab", "b" * 11)]:
            with self.assertRaises(TooLarge) as context:
                common_superwords(word, other)
            self.assertEqual(context.exception.limit, 12)

    def test_long_answers_are_right(self):
        found = common_superwords("abcabc", "cbacba")
        self.assertEqual(found, shortlex(set(found)))
        for word in found:
            self.assertTrue({"abcabc", "cbacba"} <= all_subwords(word))
            for at in range(len(word)):
                below = all_subwords(word[:at] + word[at + 1:])
                self.assertFalse({"abcabc", "cbacba"} <= below)

    def test_the_result_is_new(self):
        found = common_superwords("ab", "ba")
        found.clear()
        self.assertEqual(common_superwords("ab", "ba"), ["aba", "bab"])

    def test_example(self):
        self.assertEqual(common_superwords("ab", "ba"), ["aba", "bab"])


if __name__ == "__main__":
    unittest.main()
