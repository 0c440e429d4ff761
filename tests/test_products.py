"""Points [6] to [9]: factors, products, written forms, reduced products, unfoldings."""

import re
import unittest

from downwords.errors import InvalidText
from downwords.products import (
    accepts, format_product, is_product, parse_product, reduce_product, unfold,
)
from downwords.words import is_subword
from support import (
    NOT_TEXTS, ODD_TEXTS, all_factors, all_products, all_words, divides, language, some_products,
)

SIGNS = [chr(code) for code in range(32, 127) if code != 37] + ["\n"]


def is_written_form(text):
    """A second way to tell the written forms of products."""
    if text == "-":
        return True
    if not re.fullmatch(r"([a-z]\?|\{[a-z]+\}\*)+", text):
        return False
    stars = re.findall(r"\{([a-z]+)\}", text)
    ascending = all(list(star) == sorted(set(star)) for star in stars)
    return ascending and len(set(re.findall("[a-z]", text))) <= 3


class TestIsProduct(unittest.TestCase):

    def test_all_short_products(self):
        for product in all_products("abc", 2):
            self.assertIs(is_product("abc", product), True)
            letters = set("".join(letters for _, letters in product))
            for alphabet in ["a", "c", "ab", "bc", "xyz"]:
                self.assertIs(is_product(alphabet, product), letters <= set(alphabet))

    def test_any_number_of_factors(self):
        long = (("opt", "a"), ("star", "ab")) * 1000
        self.assertIs(is_product("ab", ()), True)
        self.assertIs(is_product("ab", long), True)
        self.assertIs(is_product("ab", long + (("opt", "c"),)), False)

    def test_wrong_factors_at_any_place(self):
        product = (("opt", "a"), ("star", "bc"), ("star", "a"), ("opt", "c"))
        self.assertIs(is_product("abc", product), True)
        wrong = [
            ("opt", "d"), ("star", "d"), ("star", "ad"), ("star", ""), ("star", "ba"), ("star", "aa"),
            ("star", "aab"), ("star", "acb"), ("opt", ""), ("opt", "ab"), ("opt", "A"), ("star", "A"),
            ("opt", "?"), ("opt", "\n"), ("Opt", "a"), ("option", "a"), ("", "a"), ("STAR", "a"),
            ("plus", "a"), ("a", "opt"), (), ("opt",), ("star",), ("opt", "a", "a"), ("star", "a", None),
            ["opt", "a"], ["star", "a"], "opt", "a", "a?", "oa", {"opt": "a"}, {"opt": 1, "a": 2},
            ("opt", ["a"]), ("opt", ("a",)), ("star", ["a", "b"]), ("star", ("a",)), ("star", {"a": "b"}),
            (["opt"], "a"), (("opt",), "a"), (("opt", "a"),), (("opt", "a"), ("opt", "a")),
            ("opt", None), ("opt", 0), ("opt", True), ("star", None), ("star", 1), ("star", False),
            (None, "a"), (0, "a"), (True, "a"), (1, 2),
        ] + NOT_TEXTS
        wrong += [("opt", thing) for thing in NOT_TEXTS] + [("star", thing) for thing in NOT_TEXTS]
        wrong += [(thing, "a") for thing in NOT_TEXTS]
        for thing in wrong:
            for at in range(len(product)):
                changed = product[:at] + (thing,) + product[at + 1:]
                self.assertIs(is_product("abc", changed), False)
            for at in range(len(product) + 1):
                self.assertIs(is_product("abc", product[:at] + (thing,) + product[at:]), False)

    def test_other_objects(self):
        for thing in NOT_TEXTS + ODD_TEXTS + ["", "a", "a?", "-"]:
            self.assertIs(is_product("abc", thing), thing == ())
        self.assertIs(is_product("ab", [("opt", "a")]), False)
        self.assertIs(is_product("ab", ("opt", "a")), False)
        self.assertIs(is_product("ab", ("star", "ab")), False)
        self.assertIs(is_product("ab", {("opt", "a"): True}), False)

    def test_example(self):
        self.assertIs(is_product("ab", (("star", "ba"),)), False)


class TestWrittenForms(unittest.TestCase):

    def check_text(self, text):
        if is_written_form(text):
            product = parse_product(text)
            letters = "".join(sorted(set(re.findall("[a-z]", text))))
            self.assertTrue(is_product(letters, product))
            self.assertEqual(format_product(product), text)
        else:
            self.check_refused(text)

    def check_refused(self, thing):
        with self.assertRaises(InvalidText) as context:
            parse_product(thing)
        self.assertEqual(context.exception.line, 0)

    def test_there_and_back(self):
        for product in all_products("abc", 2) + some_products("xyz", 7, 100, 7):
            self.assertEqual(parse_product(format_product(product)), product)

    def test_forms_of_factors(self):
        self.assertEqual(format_product(()), "-")
        self.assertEqual(parse_product("-"), ())
        self.assertEqual(format_product((("opt", "b"),)), "b?")
        self.assertEqual(format_product((("star", "b"),)), "{b}*")
        self.assertEqual(format_product((("star", "abc"), ("opt", "a"), ("opt", "a"))), "{abc}*a?a?")

    def test_long_forms(self):
        text = "a?{bc}*" * 1000
        self.assertEqual(format_product(parse_product(text)), text)
        self.check_refused(text + "a")
        self.check_refused("{bc*" * 1000)

    def test_one_character_changed(self):
        for text in ["-", "a?", "{a}*", "a?{bc}*", "{ab}*c?c?", "x?y?z?", "{az}*{a}*z?"]:
            self.check_text(text)
            for at in range(len(text)):
                self.check_text(text[:at] + text[at + 1:])
                for sign in SIGNS:
                    self.check_text(text[:at] + sign + text[at + 1:])
            for at in range(len(text) + 1):
                for sign in SIGNS:
                    self.check_text(text[:at] + sign + text[at:])

    def test_all_texts_of_few_signs(self):
        for text in all_words("ab?{}*-", 5):
            self.check_text(text)

    def test_wrong_texts(self):
        wrong = ["", "a", "?", "?a", "a?b", "a*", "{a}", "{a}?", "{}*", "{ba}*", "{aa}*", "a??", "A?",
                 "--", "-a?", "a?-", " a?", "a? ", "a? b?", "a?\n", "\n", "{a }*", "{a?}*", "1?", "{a}*b",
                 "{a}*{b", "{a}}*", "{{a}*", "{a}**", "{A}*", "()", "a?+b?", "-?", "{-}*"]
        for text in wrong + ODD_TEXTS:
            self.check_refused(text)

    def test_at_most_three_letters(self):
        for text in ["a?b?c?d?", "{abcd}*", "{abc}*d?", "{ab}*{cd}*", "d?{abc}*", "a?{bc}*a?z?"]:
            self.check_refused(text)
        self.assertEqual(len(parse_product("a?m?z?{amz}*a?")), 5)

    def test_other_objects(self):
        for thing in NOT_TEXTS + [(("opt", "a"),), [("opt", "a")], ["a?"], {"a?": 1}]:
            self.check_refused(thing)

    def test_example(self):
        self.assertEqual(parse_product("a?{bc}*"), (("opt", "a"), ("star", "bc")))


class TestAccepts(unittest.TestCase):

    def test_all_short_products(self):
        words = all_words("ab", 5)
        for product in all_products("ab", 3):
            for word in words:
                self.assertIs(accepts(product, word), divides(product, word), (product, word))

    def test_three_letters(self):
        words = all_words("abc", 4)
        for product in all_products("abc", 2)[::2] + some_products("abc", 4, 30, 4):
            for word in words:
                self.assertIs(accepts(product, word), divides(product, word), (product, word))

    def test_long_words(self):
        product = parse_product("a?{bc}*a?")
        self.assertIs(accepts(product, "a" + "cb" * 3000 + "a"), True)
        self.assertIs(accepts(product, "a" + "cb" * 3000 + "aa"), False)
        self.assertIs(accepts(parse_product("a?" * 3000), "a" * 3000), True)
        self.assertIs(accepts(parse_product("a?" * 3000), "a" * 3001), False)

    def test_the_empty_product_and_the_empty_word(self):
        self.assertIs(accepts((), ""), True)
        self.assertIs(accepts((), "a"), False)
        for product in all_products("abc", 2):
            self.assertIs(accepts(product, ""), True)

    def test_example(self):
        self.assertIs(accepts(parse_product("a?{b}*"), "ba"), False)


class TestUnfold(unittest.TestCase):

    def test_against_the_definition(self):
        for product in all_products("abc", 2):
            for count in [0, 1, 2, 3, 100]:
                parts = [letters * (1 if kind == "opt" else count) for kind, letters in product]
                self.assertEqual(unfold(product, count), "".join(parts))

    def test_counts(self):
        product = parse_product("a?{bc}*{a}*c?")
        self.assertEqual(unfold(product, 0), "ac")
        self.assertEqual(unfold(product, 1), "abcac")
        self.assertEqual(unfold(product, 3), "abcbcbcaaac")
        self.assertEqual(unfold(product, 100), "a" + "bc" * 100 + "a" * 100 + "c")
        self.assertEqual(unfold((), 100), "")

    def test_words_are_the_subwords_of_unfoldings(self):
        words = all_words("ab", 4)
        for product in all_products("ab", 3):
            for word in words:
                self.assertEqual(accepts(product, word), is_subword(word, unfold(product, len(word))))

    def test_unfoldings_are_accepted(self):
        for product in some_products("abc", 8, 40, 9):
            self.assertIs(accepts(product, unfold(product, 100)), True)

    def test_example(self):
        self.assertEqual(unfold(parse_product("a?{bc}*a?"), 2), "abcbca")


def is_absorbed(factor, other):
    """Whether a factor is superfluous next to the other one."""
    return other[0] == "star" and set(factor[1]) <= set(other[1])


def is_reduced(product):
    pairs = list(zip(product, product[1:]))
    return not any(is_absorbed(one, other) or is_absorbed(other, one) for one, other in pairs)


class TestReduce(unittest.TestCase):

    def test_reduced_with_the_same_language(self):
        for product in all_products("ab", 4)[::3] + some_products("ab", 6, 60, 6):
            reduced = reduce_product(product)
            self.assertIs(type(reduced), tuple)
            self.assertTrue(is_product("ab", reduced))
            self.assertTrue(is_reduced(reduced), product)
            self.assertEqual(language(reduced, "ab", 5), language(product, "ab", 5))
            self.assertEqual(reduce_product(reduced), reduced)

    def test_three_letters(self):
        for product in some_products("abc", 5, 100, 5):
            reduced = reduce_product(product)
            self.assertTrue(is_reduced(reduced), product)
            self.assertEqual(language(reduced, "abc", 4), language(product, "abc", 4))
            self.assertEqual(reduce_product(reduced), reduced)

    def test_reduced_products_stay(self):
        for product in all_products("abc", 3):
            if is_reduced(product):
                self.assertEqual(reduce_product(product), product)

    def test_superfluous_factors_change_nothing(self):
        for product in all_products("ab", 2) + some_products("abc", 5, 100, 15):
            reduced = reduce_product(product)
            for at, star in enumerate(product):
                for factor in all_factors("abc"):
                    if is_absorbed(factor, star):
                        before = product[:at] + (factor,) + product[at:]
                        behind = product[:at + 1] + (factor, factor) + product[at + 1:]
                        self.assertEqual(reduce_product(before), reduced)
                        self.assertEqual(reduce_product(behind), reduced)

    def test_same_language_same_reduced_product(self):
        found = {}
        for product in all_products("ab", 3):
            words = frozenset(language(product, "ab", 7))
            reduced = reduce_product(product)
            self.assertEqual(found.setdefault(words, reduced), reduced)
        self.assertEqual(len(set(found.values())), len(found))

    def test_named_edges(self):
        pairs = [
            ("-", "-"), ("a?", "a?"), ("a?a?", "a?a?"), ("{a}*", "{a}*"), ("{a}*{a}*", "{a}*"),
            ("{a}*{ab}*", "{ab}*"), ("{ab}*{a}*", "{ab}*"), ("{ab}*{ac}*", "{ab}*{ac}*"),
            ("a?b?{ab}*", "{ab}*"), ("{ab}*b?a?b?", "{ab}*"), ("a?{b}*a?", "a?{b}*a?"),
            ("a?b?{b}*", "a?{b}*"), ("a?{b}*{ab}*", "{ab}*"), ("c?a?{b}*{a}*{ab}*", "c?{ab}*"),
            ("{a}*b?{a}*", "{a}*b?{a}*"), ("{a}*b?{ab}*", "{ab}*"), ("{ab}*a?{b}*c?{ab}*", "{ab}*c?{ab}*"),
        ]
        for text, expected in pairs:
            self.assertEqual(format_product(reduce_product(parse_product(text))), expected, text)

    def test_long_products(self):
        long = parse_product("a?b?" * 1000 + "{ab}*" + "{a}*{b}*" * 1000 + "c?")
        self.assertEqual(format_product(reduce_product(long)), "{ab}*c?")

    def test_example(self):
        reduced = reduce_product(parse_product("a?{a}*b?{ab}*b?c?"))
        self.assertEqual(format_product(reduced), "{ab}*c?")


if __name__ == "__main__":
    unittest.main()
