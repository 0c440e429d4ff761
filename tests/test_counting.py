"""Points [13] to [15]: automata, counting, numbers of words, least differences."""

import itertools
import time
import unittest

from downwords.counting import automaton, count_all, count_words, least_difference, number_of, word_at
from downwords.errors import AlphabetMismatch, NoSuchWord, TooLarge
from downwords.languages import Language, is_subset, parse_language
from downwords.products import parse_product
from support import (
    all_words, edge_languages, in_shortlex, large_language, raised, some_languages, words_of,
)

MANY_STARS = [
    "{ab}*{ac}*{ab}*{ac}*{ab}*{ac}*{ab}*{ac}* + {ac}*{bc}*{ac}*{bc}*{ac}*{bc}*{ac}*{bc}* + "
    "{bc}*{ab}*{bc}*{ab}*{bc}*{ab}*{bc}*{ab}*",
    "{ab}*c?{ab}*{c}*{ab}*{c}*{ab}* + {ac}*{b}*{ac}*{b}*{ac}*{b}*{ac}* + {bc}*a?{bc}*a?a?{bc}*{a}*{bc}*{a}*",
    "a?{b}* + a?{c}* + b?{a}* + b?{c}* + c?{a}* + c?{b}* + {a}*b? + {a}*c? + {b}*a? + {b}*c? + {c}*a? + {c}*b?",
]


def reached(products, places):
    """All places from which the products may go on, since every factor may stand for the empty word."""
    found = set()
    for at, place in places:
        found |= {(at, later) for later in range(place, len(products[at]) + 1)}
    return frozenset(found)


def after_letter(products, places, letter):
    """The places behind a letter, in all ways to read it."""
    found = set()
    for at, place in places:
        if place < len(products[at]):
            kind, letters = products[at][place]
            if letter in letters:
                found.add((at, place if kind == "star" else place + 1))
    return reached(products, found)


def slow_rows(language):
    """An automaton with all sets of places as states, not the smallest one, as a dict."""
    products = language.products()
    start = reached(products, {(at, 0) for at in range(len(products))})
    rows = {}
    waiting = [start]
    while waiting:
        places = waiting.pop()
        if places not in rows:
            rows[places] = [after_letter(products, places, letter) or None for letter in language.alphabet()]
            waiting += [after for after in rows[places] if after]
    return start, rows


def slow_automaton(language):
    """The smallest automaton, by dividing the states until no letter tells states of one class apart."""
    if language.is_empty():
        return []
    start, rows = slow_rows(language)
    classes = {places: 0 for places in rows}
    while True:
        signs = {places: (classes[places],) + tuple(after and classes[after] for after in rows[places])
                 for places in rows}
        numbers = {sign: at for at, sign in enumerate(sorted(set(signs.values()), key=repr))}
        finer = {places: numbers[signs[places]] for places in rows}
        if len(numbers) == len(set(classes.values())):
            break
        classes = finer
    return numbered(start, rows, classes)


def numbered(start, rows, classes):
    """The classes as rows of numbers, in the order in which they are first reached."""
    numbers = {classes[start]: 0}
    order = [start]
    for places in order:
        for after in rows[places]:
            if after and classes[after] not in numbers:
                numbers[classes[after]] = len(numbers)
                order.append(after)
    return [tuple(after and numbers[classes[after]] for after in rows[places]) for places in order]


def slow_count(language, length):
    """How many words have the length, counted through the sets of places."""
    if language.is_empty():
        return 0
    start, rows = slow_rows(language)
    counts = {start: 1}
    for _ in range(length):
        longer = {}
        for places, many in counts.items():
            for after in rows[places]:
                if after:
                    longer[after] = longer.get(after, 0) + many
        counts = longer
    return sum(counts.values())


def small_languages():
    return edge_languages("a") + edge_languages("ab") + edge_languages("abc") \
        + some_languages("ab", (3, 2), 20, 51) + some_languages("abc", (2, 2, 2), 20, 52) \
        + some_languages("abc", (4, 3), 20, 53)


class TestAutomaton(unittest.TestCase):

    def test_against_merged_states(self):
        for language in small_languages() + some_languages("abc", (5, 4, 6), 20, 54):
            found = automaton(language)
            self.assertIs(type(found), list)
            self.assertTrue(all(type(row) is tuple for row in found))
            self.assertEqual(found, slow_automaton(language), str(language))

    def test_at_the_limit(self):
        for language in [parse_language("abc: " + form) for form in MANY_STARS]:
            self.assertEqual(automaton(language), slow_automaton(language))

    def test_reads_the_words(self):
        for language in small_languages():
            rows = automaton(language)
            words = words_of(language.products(), language.alphabet(), 5)
            for word in all_words(language.alphabet(), 5):
                state = 0 if rows else None
                for letter in word:
                    if state is not None:
                        state = rows[state][language.alphabet().index(letter)]
                self.assertIs(state is not None, word in words)

    def test_numbers_in_the_order_of_reaching(self):
        for language in small_languages():
            found = automaton(language)
            reached_states = [0] + [state for row in found for state in row if state is not None]
            self.assertEqual(list(dict.fromkeys(reached_states))[:len(found)], list(range(len(found))))

    def test_edges(self):
        self.assertEqual(automaton(Language("ab", [])), [])
        self.assertEqual(automaton(Language("ab", [()])), [(None, None)])
        self.assertEqual(automaton(parse_language("abc: {abc}*")), [(0, 0, 0)])
        self.assertEqual(automaton(parse_language("a: a?")), [(1,), (None,)])
        self.assertEqual(automaton(parse_language("ab: a?b?")), [(1, 2), (None, 2), (None, None)])
        self.assertEqual(automaton(parse_language("ab: a?b? + b?a?")),
                         [(1, 2), (None, 3), (3, None), (None, None)])

    def test_the_list_is_new(self):
        language = parse_language("ab: a?{b}*")
        automaton(language).clear()
        self.assertEqual(automaton(language), [(1, 1), (None, 1)])


class TestCounting(unittest.TestCase):

    def test_count_words_against_a_list(self):
        for language in small_languages():
            words = words_of(language.products(), language.alphabet(), 5)
            for length in range(6):
                expected = len([word for word in words if len(word) == length])
                self.assertEqual(count_words(language, length), expected)

    def test_count_words_of_long_words(self):
        for language in small_languages()[::3]:
            for length in (0, 1, 6, 12, 40, 60, 200):
                self.assertEqual(count_words(language, length), slow_count(language, length))

    def test_count_words_at_the_limit(self):
        for form in MANY_STARS:
            language = parse_language("abc: " + form)
            for length in (7, 40, 200):
                self.assertEqual(count_words(language, length), slow_count(language, length))

    def test_count_words_by_formulas(self):
        for length in (0, 1, 2, 40, 200):
            self.assertEqual(count_words(parse_language("abc: {abc}*"), length), 3 ** length)
            self.assertEqual(count_words(parse_language("ab: {a}*{b}*"), length), length + 1)
            self.assertEqual(count_words(parse_language("abc: {ab}*"), length), 2 ** length)
            self.assertEqual(count_words(parse_language("ab: {a}*"), length), 1)
            self.assertEqual(count_words(parse_language("ab: -"), length), 1 if length == 0 else 0)
            self.assertEqual(count_words(parse_language("ab: none"), length), 0)
            self.assertEqual(count_words(parse_language("ab: {a}*b?"), length), 1 if length == 0 else 2)

    def test_count_all(self):
        for language in small_languages() + some_languages("ab", (7, 5), 10, 55):
            stars = [factor for product in language.products() for factor in product if factor[0] == "star"]
            longest = max([len(product) for product in language.products()], default=0)
            if stars:
                self.assertIsNone(count_all(language))
            else:
                words = words_of(language.products(), language.alphabet(), longest)
                self.assertEqual(count_all(language), len(words))

    def test_count_all_of_words(self):
        self.assertEqual(count_all(Language("ab", [])), 0)
        self.assertEqual(count_all(Language("ab", [()])), 1)
        self.assertEqual(count_all(parse_language("a: " + "a?" * 24)), 25)
        self.assertEqual(count_all(parse_language("abc: " + "a?b?c?" * 2)), 52)
        self.assertIsNone(count_all(parse_language("abc: {abc}*")))
        self.assertIsNone(count_all(parse_language("ab: a?b?b?a? + {b}*")))

    def test_count_all_is_the_sum(self):
        for seed in range(4):
            words = large_language("abc", (6, 6, 6, 6), seed)
            finite = Language("abc", [tuple(("opt", letters[0]) for _, letters in product)
                                      for product in words.products()])
            expected = sum(slow_count(finite, length) for length in range(25))
            self.assertEqual(count_all(finite), expected)

    def test_examples(self):
        self.assertEqual(automaton(parse_language("ab: a?{b}*")), [(1, 1), (None, 1)])
        self.assertEqual(count_words(parse_language("ab: a?{b}*"), 3), 2)
        self.assertEqual(count_all(parse_language("ab: a?b? + b?a?")), 5)
        language = parse_language("ab: a?b? + b?a?")
        self.assertEqual([word_at(language, 4), number_of(language, "ab"), number_of(language, "aa")], ["ba", 3, None])
        self.assertEqual(least_difference(parse_language("ab: {ab}*"), language), "aa")


class TestNumbers(unittest.TestCase):

    def test_against_the_list(self):
        for language in small_languages()[::2]:
            words = in_shortlex(words_of(language.products(), language.alphabet(), 5))
            for number, word in enumerate(words[:501]):
                self.assertEqual(word_at(language, number), word)
                self.assertEqual(number_of(language, word), number)
            for word in set(all_words(language.alphabet(), 5)) - set(words):
                self.assertIsNone(number_of(language, word))

    def test_no_such_word(self):
        for form in ["none", "-", "a?", "a?b? + b?a?", "a?b?a?b?"]:
            language = parse_language("ab: " + form)
            many = count_all(language)
            for number in (many, many + 1, 400, 500):
                self.assertEqual(raised(NoSuchWord, word_at, language, number), {"number": number})
            if many:
                self.assertEqual(number_of(language, word_at(language, many - 1)), many - 1)

    def test_there_and_back(self):
        languages = some_languages("abc", (4, 4, 4), 6, 56) + [parse_language("abc: " + form) for form in MANY_STARS]
        for language in languages:
            for number in (0, 1, 17, 100, 333, 500):
                try:
                    word = word_at(language, number)
                except NoSuchWord as error:
                    self.assertEqual(error.number, number)
                    self.assertLessEqual(count_all(language), number)
                else:
                    self.assertEqual(number_of(language, word), number)

    def test_numbers_of_long_words(self):
        # All words of less than 60 letters, and those of 60 letters that come first.
        full = parse_language("ab: {ab}*")
        self.assertEqual(number_of(full, "a" * 60), 2 ** 60 - 1)
        self.assertEqual(number_of(full, "b" * 60), 2 ** 61 - 2)
        self.assertEqual(number_of(full, "a" * 58 + "ba"), 2 ** 60 + 1)
        self.assertEqual(number_of(parse_language("abc: {abc}*"), "c" * 60), (3 ** 61 - 3) // 2)
        self.assertEqual(number_of(parse_language("ab: {a}*"), "a" * 60), 60)
        self.assertIsNone(number_of(parse_language("ab: {a}*"), "a" * 59 + "b"))
        self.assertEqual(number_of(parse_language("ab: {a}*{b}*"), "a" * 30 + "b" * 30), 60 * 61 // 2 + 30)
        self.assertIsNone(number_of(parse_language("ab: none"), "a" * 60))

    def test_the_next_long_word(self):
        for form in MANY_STARS[:2] + ["{ab}*{c}* + {c}*{b}*a?", "a?{bc}*"]:
            language = parse_language("abc: " + form)
            words = ["".join(row) for row in itertools.product("abc", repeat=3)]
            start = "b" * 57
            inside = [start + word for word in words if language.contains(start + word)]
            first = number_of(language, inside[0])
            for at, word in enumerate(inside):
                self.assertEqual(number_of(language, word), first + at)

    def test_long_words_at_numbers(self):
        self.assertEqual(word_at(parse_language("ab: {a}*"), 500), "a" * 500)
        self.assertEqual(word_at(parse_language("ab: {a}* + {b}*"), 499), "a" * 250)
        self.assertEqual(word_at(parse_language("ab: {a}* + {b}*"), 500), "b" * 250)


class TestLeastDifference(unittest.TestCase):

    def test_against_a_search(self):
        languages = edge_languages("ab") + some_languages("ab", (2, 2), 24, 57) + some_languages("ab", (3, 1), 12, 58)
        words = [words_of(language.products(), "ab", 7) for language in languages]
        for (one, left), (other, right) in itertools.product(zip(languages, words), repeat=2):
            expected = next(iter(in_shortlex(left - right)), None)
            self.assertEqual(least_difference(one, other), expected)
            self.assertIs(expected is None, is_subset(one, other))

    def test_three_letters(self):
        languages = some_languages("abc", (3, 4, 2), 16, 59) + edge_languages("abc")
        words = [words_of(language.products(), "abc", 5) for language in languages]
        for (one, left), (other, right) in itertools.product(zip(languages, words), repeat=2):
            found = least_difference(one, other)
            short = next(iter(in_shortlex(left - right)), None)
            if short is not None:
                self.assertEqual(found, short)
            elif found is None:
                self.assertTrue(is_subset(one, other))
            else:
                self.assertGreater(len(found), 5)
                self.assertTrue(one.contains(found) and not other.contains(found))

    def test_edges(self):
        none, empty, full = [parse_language("ab: " + form) for form in ["none", "-", "{ab}*"]]
        self.assertIsNone(least_difference(none, none))
        self.assertIsNone(least_difference(none, full))
        self.assertEqual(least_difference(empty, none), "")
        self.assertEqual(least_difference(full, none), "")
        self.assertEqual(least_difference(full, empty), "a")
        self.assertEqual(least_difference(parse_language("ab: {b}*"), empty), "b")
        self.assertEqual(least_difference(full, parse_language("ab: " + "b?{a}*" * 12)), "a" + "b" * 12)
        self.assertEqual(least_difference(parse_language("ab: {a}*"), parse_language("ab: " + "a?" * 24)), "a" * 25)


class TestLimits(unittest.TestCase):

    def calls(self, language):
        return [
            (automaton, language), (count_words, language, 3), (count_words, language, 200), (count_all, language),
            (word_at, language, 0), (word_at, language, 500), (number_of, language, ""),
            (number_of, language, "cab" * 20), (least_difference, language, language),
            (least_difference, language, Language("abc", [])), (least_difference, Language("abc", []), language),
        ]

    def test_more_than_24_factors(self):
        languages = [large_language("abc", sizes, 9) for sizes in [(25,), (13, 12), (8, 8, 9), (5,) * 5, (40, 40)]]
        languages += [parse_language("abc: " + "a?" * 25), parse_language("abc: " + "a?{b}*" * 12 + "a?")]
        for language in languages:
            for call in self.calls(language):
                self.assertEqual(raised(TooLarge, *call), {"limit": 24}, call[0])

    def test_answers_at_24_factors(self):
        forms = MANY_STARS + ["a?" * 24, "a?{bc}*" * 12, "{ab}*{bc}*" * 12, "a?b?c?" * 8, "{a}*{b}*{c}*" * 8]
        languages = [parse_language("abc: " + form) for form in forms]
        languages += [large_language("abc", sizes, 10) for sizes in [(24,), (12, 12), (8, 8, 8), (6,) * 4, (4,) * 6]]
        begin = time.monotonic()
        for language in languages:
            for function, *arguments in self.calls(language):
                if arguments[1:] != [500] or count_all(language) is None or count_all(language) > 500:
                    function(*arguments)
        for one, other in itertools.product(languages, repeat=2):
            found = least_difference(one, other)
            self.assertIs(found is None, is_subset(one, other))
            self.assertTrue(found is None or one.contains(found) and not other.contains(found))
        self.assertLess(time.monotonic() - begin, 30)

    def test_other_alphabets_first(self):
        large = large_language("abc", (13, 12), 11)
        for one, other in [(large, Language("ab", [])), (Language("ab", [()]), large),
                           (large, Language("ab", [parse_product("a?" * 25)])), (Language("a", []), Language("b", []))]:
            self.assertEqual(raised(AlphabetMismatch, least_difference, one, other), {})

    def test_too_large_before_no_such_word(self):
        language = parse_language("a: " + "a?" * 25)
        self.assertEqual(raised(TooLarge, word_at, language, 26), {"limit": 24})
        self.assertEqual(raised(NoSuchWord, word_at, parse_language("a: " + "a?" * 24), 25), {"number": 25})


if __name__ == "__main__":
    unittest.main()
