"""Points [2], [3], [11] and [13]: Languages, their one list of products, their written form, subsets."""

import itertools
import random
import unittest

from downwords.errors import AlphabetMismatch, InvalidAlphabet, InvalidProduct, InvalidText
from downwords.languages import Language, closure_of_words, is_subset, parse_language
from downwords.operations import union
from downwords.products import format_product, parse_product, unfold
from downwords.words import is_alphabet, is_subword
from support import (
    NOT_TEXTS, ODD_TEXTS, all_factors, all_products, all_subwords, all_words, check_one_list, divides,
    edge_languages, large_language, raised, some_languages, some_products, words_of,
)

SIGNS = [chr(code) for code in range(32, 127) if code != 37] + ["\n"]

WRONG_PRODUCTS = NOT_TEXTS[:8] + ["", "a", "a?", "-", ["a"], [], {}, [("opt", "a")], {"opt": "a"}] + [
    ("opt", "a"), (("opt", "c"),), (("star", "ba"),), (("star", ""),), (("opt", "ab"),), (("Opt", "a"),),
    (["opt", "a"],), (("opt", "a"), None), (("opt", "a"), ("opt", 1)), (("opt", "a", "a"),), ((),),
    (("opt", "a"), ("star", "abc")), Language("ab", []), (Language("ab", []),), ((Language("ab", []), "a"),),
    (("opt", Language("ab", [])),),
]


def parsed(*forms):
    return [parse_product(form) for form in forms]


class TestMaking(unittest.TestCase):

    def test_the_alphabet_comes_first(self):
        for alphabet in NOT_TEXTS + ODD_TEXTS + ["", "ba", "aa", "abcd"]:
            self.assertFalse(is_alphabet(alphabet))
            for products in [[], [()], None, "ab", [None], {}, alphabet]:
                self.assertEqual(raised(InvalidAlphabet, Language, alphabet, products), {})

    def test_neither_a_list_nor_a_tuple(self):
        for products in NOT_TEXTS + ODD_TEXTS + ["", "a", "a?"]:
            if not isinstance(products, (list, tuple)):
                self.assertEqual(raised(InvalidProduct, Language, "ab", products), {"index": None})

    def test_the_first_wrong_index(self):
        right = parsed("-", "a?", "a?{b}*", "{ab}*", "b?{b}*")
        for wrong in WRONG_PRODUCTS:
            for at in range(len(right) + 1):
                for rest in [right[at:], [None] + right[at:], right[at:] + [wrong]]:
                    products = right[:at] + [wrong] + rest
                    self.assertEqual(raised(InvalidProduct, Language, "ab", products), {"index": at})
                    self.assertEqual(raised(InvalidProduct, Language, "ab", tuple(products)), {"index": at})

    def test_any_object_in_the_list(self):
        for thing in NOT_TEXTS + ODD_TEXTS:
            if thing != ():
                self.assertEqual(raised(InvalidProduct, Language, "abc", [thing]), {"index": 0})
                self.assertEqual(raised(InvalidProduct, Language, "abc", ((), thing)), {"index": 1})

    def test_the_same_object_for_both(self):
        self.assertEqual(raised(InvalidProduct, Language, "ab", "ab"), {"index": None})

    def test_lists_and_tuples(self):
        for products in [[], parsed("-"), parsed("a?{b}*", "b?"), parsed("{ab}*", "{a}*", "b?")]:
            self.assertEqual(Language("ab", products), Language("ab", tuple(products)))
            self.assertEqual(Language("ab", products).products(), Language("ab", tuple(products)).products())

    def test_lists_are_copied(self):
        products = parsed("a?b?", "b?{a}*")
        language = Language("ab", products)
        products.append(parse_product("{ab}*"))
        products[0] = None
        self.assertEqual(str(language), "ab: a?b? + b?{a}*")
        language.products().clear()
        language.products().append(parse_product("{ab}*"))
        self.assertEqual(language.products(), parsed("a?b?", "b?{a}*"))
        self.assertTrue(language.contains("ab"))

    def test_arguments_stay(self):
        products = parsed("{ab}*a?", "b?b?", "a?", "a?")
        before = list(products)
        Language("ab", products)
        self.assertEqual(products, before)


class TestOneList(unittest.TestCase):

    def check_products(self, alphabet, products):
        language = Language(alphabet, products)
        check_one_list(self, language)
        for word in all_words(alphabet, 4):
            expected = any(divides(product, word) for product in products)
            self.assertIs(language.contains(word), expected, (products, word))
        return language

    def test_all_short_pairs(self):
        for pair in itertools.combinations(all_products("ab", 2), 2):
            language = self.check_products("ab", list(pair))
            self.assertEqual(language, Language("ab", pair[::-1]))

    def test_some_lists(self):
        for seed, sizes in enumerate([(3, 3, 3), (1, 2, 3, 4), (5, 2, 2), (2, 2, 2, 2, 2, 2), (0, 6)]):
            rows = zip(*[some_products("abc", size, 12, 50 * seed + at) for at, size in enumerate(sizes)])
            for products in rows:
                self.check_products("abc", list(products))

    def test_other_lists_of_the_same_words(self):
        source = random.Random(11)
        factors = all_factors("abc")
        for language in some_languages("abc", (3, 4, 2, 3), 30, 11):
            products = language.products()
            more = products + products
            for product in products:
                at = source.randrange(len(product) + 1)
                more.append(product[:at] + product[at + 1:])
                for place, (kind, letters) in enumerate(product):
                    if kind == "star":
                        swallowed = [f for f in factors if set(f[1]) <= set(letters)]
                        extra = (source.choice(swallowed), source.choice(swallowed))
                        more.append(product[:place] + extra + product[place:])
                        more.append(product[:place + 1] + extra + product[place + 1:])
            for _ in range(3):
                source.shuffle(more)
                other = Language("abc", more)
                self.assertEqual(other, language)
                self.assertEqual(other.products(), products)
                self.assertEqual(str(other), str(language))

    def test_same_words_same_list(self):
        # Words of 7 letters tell apart all Languages of these products.
        found = {}
        products = all_products("ab", 2)
        words = {product: words_of([product], "ab", 7) for product in products}
        for pair in itertools.combinations_with_replacement(products, 2):
            language = Language("ab", pair)
            key = frozenset(words[pair[0]] | words[pair[1]])
            self.assertEqual(found.setdefault(key, str(language)), str(language))
        self.assertEqual(len(set(found.values())), len(found))

    def test_many_products(self):
        words = all_words("ab", 9)
        language = Language("ab", [tuple(("opt", letter) for letter in word) for word in words])
        self.assertEqual(len(language.products()), 2 ** 9)
        longest = [word for word in words if len(word) == 9]
        self.assertEqual(language.products(), [tuple(("opt", letter) for letter in word) for word in longest])

    def test_long_products(self):
        long = parse_product("a?{b}*" * 300)
        language = Language("ab", [long, long[1:], long + (("opt", "b"),), long[:-1]])
        self.assertEqual(language.products(), [long])


class TestMethods(unittest.TestCase):

    def test_alphabet(self):
        for alphabet in ["a", "z", "ab", "xz", "abc", "kmp"]:
            self.assertEqual(Language(alphabet, []).alphabet(), alphabet)
            self.assertEqual(Language(alphabet, [(("opt", alphabet[0]),)]).alphabet(), alphabet)

    def test_without_words(self):
        for language in [Language("ab", []), Language("ab", ())]:
            self.assertIs(language.is_empty(), True)
            self.assertIs(language.is_full(), False)
            self.assertEqual(language.letters(), "")
            self.assertEqual(language.products(), [])
            self.assertEqual(str(language), "ab: none")
            for word in all_words("ab", 3):
                self.assertIs(language.contains(word), False)

    def test_the_empty_word_alone(self):
        for language in [Language("ab", [()]), Language("ab", ((), ()))]:
            self.assertIs(language.is_empty(), False)
            self.assertIs(language.is_full(), False)
            self.assertEqual(language.letters(), "")
            self.assertEqual(language.products(), [()])
            self.assertEqual(str(language), "ab: -")
            self.assertEqual([word for word in all_words("ab", 3) if language.contains(word)], [""])

    def test_full(self):
        for alphabet in ["a", "ab", "abc"]:
            language = Language(alphabet, [(("star", alphabet),), ()])
            self.assertIs(language.is_full(), True)
            self.assertIs(language.is_empty(), False)
            self.assertEqual(language.letters(), alphabet)
            self.assertTrue(all(language.contains(word) for word in all_words(alphabet, 4)))
        self.assertIs(Language("ab", parsed("a?{ab}*{b}*")).is_full(), True)
        for forms in [["{a}*"], ["{a}*", "{b}*"], ["{a}*{b}*{a}*{b}*"], ["a?b?", "b?a?"]]:
            self.assertIs(Language("ab", parsed(*forms)).is_full(), False)
        self.assertIs(Language("abc", parsed("{ab}*", "{bc}*", "{ac}*")).is_full(), False)

    def test_letters(self):
        for language in some_languages("abc", (1, 2), 60, 5) + some_languages("bxz", (3, 1), 30, 6):
            words = words_of(language.products(), language.alphabet(), 2)
            self.assertEqual(language.letters(), "".join(sorted(set("".join(words)))))
        self.assertEqual(Language("abc", parsed("c?", "a?")).letters(), "ac")
        self.assertEqual(Language("abc", parsed("{bc}*b?", "b?")).letters(), "bc")

    def test_contains_long_words(self):
        language = Language("ab", parsed("a?{b}*a?", "{a}*b?"))
        self.assertIs(language.contains("a" + "b" * 2000 + "a"), True)
        self.assertIs(language.contains("a" * 2000 + "b"), True)
        self.assertIs(language.contains("a" * 2000 + "ba"), False)
        self.assertIs(language.contains("aab" + "b" * 2000), False)

    def test_equality(self):
        one = Language("ab", parsed("a?", "{b}*"))
        self.assertTrue(one == Language("ab", parsed("{b}*", "a?", "b?b?")))
        self.assertFalse(one != Language("ab", parsed("{b}*", "a?", "b?b?")))
        self.assertFalse(one == Language("abc", parsed("a?", "{b}*")))
        self.assertTrue(one != Language("abc", parsed("a?", "{b}*")))
        self.assertFalse(one == Language("ab", parsed("a?", "b?")))
        self.assertFalse(Language("a", []) == Language("b", []))
        self.assertFalse(Language("a", [()]) == Language("ab", [()]))
        self.assertFalse(Language("a", []) == Language("a", [()]))

    def test_never_equal_to_other_objects(self):
        for language in edge_languages("ab"):
            others = [str(language), language.products(), tuple(language.products()), "ab",
                      ("ab", language.products()), [language], (language,), {"ab": language}, {}]
            for thing in others + NOT_TEXTS[:8] + ODD_TEXTS + [AlphabetMismatch(), InvalidText(0)]:
                self.assertIs(language == thing, False)
                self.assertIs(thing == language, False)
                self.assertIs(language != thing, True)
            self.assertTrue(language == language)

    def test_examples(self):
        self.assertEqual(str(Language("ab", parsed("b?{a}*", "a?b?", "a?"))), "ab: a?b? + b?{a}*")
        language = Language("abc", parsed("{ab}*", "b?"))
        self.assertEqual(
            [language.contains("abba"), language.contains("c"), language.is_full(), language.letters()],
            [True, False, False, "ab"])


class TestClosureOfWords(unittest.TestCase):

    def test_some_lists_of_words(self):
        source = random.Random(4)
        words = all_words("abc", 4)
        lists = [[], [""], ["", ""], ["a", "a"], ["", "ab"], ["ab", "aab", "b"], ["abc", "cba", "abc", "b", ""]]
        lists += [[source.choice(words) for _ in range(size)] for size in (1, 2, 3, 5, 9) for _ in range(12)]
        for some in lists:
            before = list(some)
            language = closure_of_words("abc", some)
            self.assertEqual(some, before)
            check_one_list(self, language)
            expected = set().union(*[all_subwords(word) for word in some])
            self.assertEqual({word for word in words if language.contains(word)}, expected)
            maximal = [word for word in set(some)
                       if not any(word != other and is_subword(word, other) for other in some)]
            forms = ["".join(letter + "?" for letter in word) or "-" for word in maximal]
            self.assertEqual([format_product(product) for product in language.products()], sorted(forms))

    def test_named_edges(self):
        self.assertEqual(closure_of_words("ab", []), Language("ab", []))
        self.assertEqual(closure_of_words("ab", [""]), Language("ab", [()]))
        self.assertEqual(closure_of_words("abc", ["", "b"]), Language("abc", parsed("b?")))
        self.assertEqual(closure_of_words("ab", ("ab", "b")), closure_of_words("ab", ["ab", "b"]))

    def test_the_list_is_copied(self):
        words = ["ab"]
        language = closure_of_words("ab", words)
        words.append("ba")
        self.assertEqual(str(language), "ab: a?b?")

    def test_example(self):
        self.assertEqual(str(closure_of_words("ab", ["ab", "b"])), "ab: a?b?")


class TestIsSubset(unittest.TestCase):

    def test_against_short_words(self):
        # 7 letters are enough for products of so few factors.
        languages = edge_languages("ab") + some_languages("ab", (2, 2), 30, 1) + some_languages("ab", (1, 3), 20, 2)
        words = [words_of(language.products(), "ab", 7) for language in languages]
        for (one, left), (other, right) in itertools.product(zip(languages, words), repeat=2):
            self.assertIs(is_subset(one, other), left <= right, (str(one), str(other)))

    def test_against_long_unfoldings(self):
        languages = some_languages("abc", (3, 4, 2), 30, 3) + some_languages("abc", (6, 1, 5), 20, 4)
        languages += edge_languages("abc")
        for one, other in itertools.product(languages, repeat=2):
            expected = all(other.contains(unfold(product, 8)) for product in one.products())
            self.assertIs(is_subset(one, other), expected, (str(one), str(other)))

    def test_unions_and_equal_languages(self):
        languages = edge_languages("abc") + some_languages("abc", (5, 3, 4), 20, 9)
        for one, other in itertools.product(languages, repeat=2):
            both = union(one, other)
            self.assertIs(is_subset(one, both) and is_subset(other, both), True)
            self.assertIs(is_subset(both, other), is_subset(one, other))
            self.assertIs(is_subset(one, other) and is_subset(other, one), one == other)

    def test_other_alphabets(self):
        for one, other in [("ab", "abc"), ("abc", "ab"), ("a", "b"), ("ab", "ac")]:
            for first, second in itertools.product(edge_languages(one), edge_languages(other)):
                self.assertEqual(raised(AlphabetMismatch, is_subset, first, second), {})

    def test_example(self):
        self.assertIs(is_subset(parse_language("ab: a?b? + b?a?"), parse_language("ab: {ab}*")), True)


class TestParseLanguage(unittest.TestCase):

    def check_refused(self, thing):
        self.assertEqual(raised(InvalidText, parse_language, thing), {"line": 0}, thing)

    def check_text(self, text):
        """A text is parsed exactly if it is the written form of what it is parsed to."""
        try:
            language = parse_language(text)
        except InvalidText as error:
            self.assertEqual(error.line, 0)
            self.assertFalse(self.is_written_form(text), text)
        else:
            self.assertEqual(str(language), text)
            self.assertTrue(self.is_written_form(text), text)

    def is_written_form(self, text):
        """A second way to tell the written forms of Languages."""
        alphabet, _, rest = text.partition(": ")
        if not is_alphabet(alphabet) or text != f"{alphabet}: {rest}":
            return False
        if rest == "none":
            return True
        try:
            products = parsed(*rest.split(" + "))
            language = Language(alphabet, products)
        except (InvalidText, InvalidProduct):
            return False
        return language.products() == products

    def test_there_and_back(self):
        languages = edge_languages("a") + edge_languages("xyz") + some_languages("abc", (3, 2, 4), 60, 7)
        languages += some_languages("bz", (1, 1), 40, 8) + [large_language("abc", (8, 8, 8, 6), 3)]
        for language in languages:
            found = parse_language(str(language))
            self.assertEqual(found, language)
            self.assertEqual(found.products(), language.products())
            forms = [format_product(product) for product in language.products()]
            self.assertEqual(str(language), language.alphabet() + ": " + (" + ".join(forms) or "none"))

    def test_one_character_changed(self):
        for text in ["ab: none", "abc: -", "a: a?", "ab: a?b? + b?{a}*", "xyz: x? + {yz}*", "ac: {a}*c? + {c}*a?"]:
            self.assertEqual(str(parse_language(text)), text)
            for at in range(len(text) + 1):
                self.check_text(text[:at] + text[at + 1:])
                for sign in SIGNS:
                    self.check_text(text[:at] + sign + text[at + 1:])
                    self.check_text(text[:at] + sign + text[at:])

    def test_products_exchanged(self):
        for language in some_languages("abc", (3, 2, 3), 40, 17):
            forms = [format_product(product) for product in language.products()]
            for row in itertools.permutations(forms):
                if list(row) != forms:
                    self.check_refused("abc: " + " + ".join(row))
            for at, form in enumerate(forms):
                self.check_refused("abc: " + " + ".join(forms[:at] + [form] + forms[at:]))
                self.check_refused("abc: " + " + ".join(forms[:at] + ["none"] + forms[at:]))
            self.check_refused("abc: " + " + ".join(sorted(forms + ["-"])) if forms != ["-"] else "abc: - + -")

    def test_unreduced_and_included(self):
        for text in ["ab: a? + a?b?", "ab: a? + {a}*", "ab: a?{a}*", "ab: {a}*{ab}*", "ab: {ab}*{ab}*", "ab: - + a?",
                     "ab: a? + a?", "ab: b?a? + a?b?", "ab: {a}* + a?b?", "ab: {ab}*b?", "ab: none + a?", "ab: - + -"]:
            self.check_refused(text)

    def test_letters_outside(self):
        for text in ["ab: c?", "ab: {ac}*", "a: a? + b?", "b: a?", "xyz: a?", "abc: d?", "ab: a?b?c?"]:
            self.check_refused(text)

    def test_alphabets_that_are_none(self):
        for alphabet in ["", "ba", "aa", "abcd", "A", "a b", " ", "1", "a:", "ab ", " ab", "a\n", "-"]:
            for rest in ["none", "-", "a?", "a?b?"]:
                self.check_refused(alphabet + ": " + rest)

    def test_wrong_texts(self):
        wrong = ["", "ab", "ab:", "ab: ", "ab:none", "ab : none", "ab:  none", "ab: none ", "ab: NONE", "ab: none\n",
                 "ab: a?+b?", "ab: a? +b?", "ab: a?  + b?", "ab: a? + ", "ab:  + a?", "ab: a? | b?", "ab: a? + b? + ",
                 "ab: ab: a?", "ab: none: none", "none", ": none", ": ", "-", "a?", "ab: a", "ab: ?", "ab: {a}",
                 "ab: none + none", "\nab: none", "ab\n: none", "ab: a? + b?\n", "ab: a?\n + b?"]
        for text in wrong + ODD_TEXTS:
            self.check_refused(text)

    def test_other_objects(self):
        for thing in NOT_TEXTS + [["ab: none"], ("ab: none",), {"ab: none": 1}] + edge_languages("ab"):
            self.check_refused(thing)

    def test_example(self):
        self.check_refused("ab: a? + a?b?")


if __name__ == "__main__":
    unittest.main()
