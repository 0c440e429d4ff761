"""Point [10]: inclusion, and the common part of two products."""

import itertools
import unittest

from downwords.errors import TooLarge
from downwords.products import (
    accepts, common_part, format_product, is_included, parse_product, reduce_product, unfold,
)
from support import all_factors, all_products, all_words, language, some_products


class TestIsIncluded(unittest.TestCase):

    def test_against_short_words(self):
        # 7 letters are enough: they tell apart all of these products that are not included.
        products = all_products("ab", 3)
        languages = {product: language(product, "ab", 7) for product in set(products)}
        for product, other in itertools.product(products, repeat=2):
            expected = languages[product] <= languages[other]
            self.assertIs(is_included(product, other), expected, (product, other))

    def test_against_long_unfoldings(self):
        products = some_products("abc", 3, 60, 3) + some_products("abc", 7, 60, 77) + [()]
        for product, other in itertools.product(products, repeat=2):
            expected = accepts(other, unfold(product, len(other) + 1))
            self.assertIs(is_included(product, other), expected, (product, other))

    def test_factors_deleted(self):
        for product in some_products("abc", 8, 60, 8):
            for size in (0, 1, 4, 7, 8):
                smaller = tuple(itertools.islice(product, size))
                self.assertIs(is_included(smaller, product), True)
            for at in range(8):
                self.assertIs(is_included(product[:at] + product[at + 1:], product), True)

    def test_stars_turned_into_optional_letters(self):
        for product in some_products("abc", 6, 60, 66):
            for at, (kind, letters) in enumerate(product):
                if kind == "star":
                    many = tuple(("opt", letter) for letter in letters * 3)
                    smaller = product[:at] + many + product[at + 1:]
                    self.assertIs(is_included(smaller, product), True)

    def test_letters_and_factors_added(self):
        for product in some_products("ab", 5, 60, 55):
            for at, (kind, letters) in enumerate(product):
                larger = product[:at] + (("star", "ab"),) + product[at + 1:]
                self.assertIs(is_included(product, larger), True)
                foreign = product[:at] + (("opt", "c"),) + product[at:]
                self.assertIs(is_included(product, foreign), True)
                self.assertIs(is_included(foreign, product), False)

    def test_reduced_products_are_included_both_ways(self):
        for product in some_products("abc", 8, 100, 88):
            reduced = reduce_product(product)
            self.assertIs(is_included(product, reduced), True)
            self.assertIs(is_included(reduced, product), True)

    def test_named_edges(self):
        yes = [("-", "-"), ("-", "a?"), ("{a}*", "a?{a}*"), ("a?{a}*", "{a}*"), ("{ab}*", "{a}*{ab}*"),
               ("{a}*{b}*", "{ab}*"), ("a?b?a?", "a?{ab}*"), ("{a}*b?{a}*", "{a}*b?c?{a}*")]
        no = [("a?", "-"), ("{a}*", "a?a?a?"), ("{ab}*", "{a}*{b}*{a}*{b}*"), ("a?b?", "b?a?"), ("a?a?", "a?"),
              ("{ab}*", "{ac}*{bc}*"), ("{a}*b?{a}*", "{a}*b?"), ("c?", "{ab}*"), ("{a}*a?b?b?", "{a}*b?")]
        for one, other in yes:
            self.assertIs(is_included(parse_product(one), parse_product(other)), True, (one, other))
        for one, other in no:
            self.assertIs(is_included(parse_product(one), parse_product(other)), False, (one, other))

    def test_long_products(self):
        long = parse_product("a?{b}*" * 500)
        self.assertIs(is_included(long, long), True)
        self.assertIs(is_included(long + (("opt", "a"),), long), False)

    def test_example(self):
        self.assertIs(is_included(parse_product("a?b?a?"), parse_product("{ab}*")), True)


class TestCommonPart(unittest.TestCase):

    def check_form(self, parts):
        """Reduced products, none in another one, sorted by their written forms."""
        self.assertIs(type(parts), list)
        self.assertGreater(len(parts), 0)
        forms = [format_product(part) for part in parts]
        self.assertEqual(forms, sorted(set(forms)))
        for part in parts:
            self.assertEqual(reduce_product(part), part)
        for one, other in itertools.permutations(parts, 2):
            self.assertFalse(is_included(one, other))

    def check_words(self, product, other, parts, words):
        for word in words:
            expected = accepts(product, word) and accepts(other, word)
            self.assertIs(any(accepts(part, word) for part in parts), expected, (product, other, word))

    def check_largest(self, product, other, parts, candidates):
        """Every product that is included in both is included in a part, and every part in both."""
        for part in parts:
            self.assertTrue(is_included(part, product) and is_included(part, other))
        for candidate in candidates:
            if is_included(candidate, product) and is_included(candidate, other):
                self.assertTrue(any(is_included(candidate, part) for part in parts))

    def test_all_short_products(self):
        words = all_words("ab", 5)
        candidates = all_products("ab", 3)
        for product, other in itertools.combinations_with_replacement(all_products("ab", 2), 2):
            parts = common_part(product, other)
            self.check_form(parts)
            self.check_words(product, other, parts, words)
            self.check_largest(product, other, parts, candidates)
            self.assertEqual(common_part(other, product), parts)

    def test_three_letters(self):
        words = all_words("abc", 5)
        candidates = all_products("abc", 3)
        sizes = [(3, 3), (2, 5), (5, 4), (8, 1)]
        for size, width in sizes:
            pairs = zip(some_products("abc", size, 8, size), some_products("abc", width, 8, 100 + width))
            for product, other in pairs:
                parts = common_part(product, other)
                self.check_form(parts)
                self.check_words(product, other, parts, words)
                self.check_largest(product, other, parts, candidates)
                self.assertEqual(common_part(other, product), parts)

    def test_eight_factors(self):
        words = all_words("abc", 5)
        pairs = list(zip(some_products("abc", 8, 12, 1), some_products("abc", 8, 12, 2)))
        pairs.append((parse_product("{bc}*{ac}*" * 4), parse_product("{ac}*{ab}*" * 4)))
        pairs.append((parse_product("a?b?c?" * 2 + "a?b?"), parse_product("c?b?a?" * 2 + "c?b?")))
        for product, other in pairs:
            parts = common_part(product, other)
            self.check_form(parts)
            self.check_words(product, other, parts, words)
            self.assertEqual(common_part(other, product), parts)
            deleted = [product[:at] + product[at + 1:] for at in range(8)]
            self.check_largest(product, other, parts, deleted + [other, product])
            for part in parts:
                added = [part[:at] + (factor,) + part[at:]
                         for at in range(len(part) + 1) for factor in all_factors("abc")]
                self.check_largest(product, other, parts, added)

    def test_with_itself(self):
        for product in all_products("ab", 3) + some_products("abc", 8, 60, 18):
            self.assertEqual(common_part(product, product), [reduce_product(product)])

    def test_with_a_larger_one(self):
        for product in some_products("abc", 8, 20, 28):
            self.assertEqual(common_part(product, (("star", "abc"),)), [reduce_product(product)])
            self.assertEqual(common_part((), product), [()])
            self.assertEqual(common_part(product, ()), [()])

    def test_nothing_but_the_empty_word(self):
        self.assertEqual(common_part((), ()), [()])
        self.assertEqual(common_part(parse_product("a?"), parse_product("{bc}*")), [()])
        self.assertEqual(common_part(parse_product("{a}*"), parse_product("{b}*")), [()])

    def test_the_limit(self):
        eight = parse_product("a?b?" * 4)
        nine = eight + (("opt", "a"),)
        reducible = (("star", "a"),) * 9
        self.assertEqual(common_part(eight, eight), [eight])
        for product, other in [(nine, eight), (eight, nine), (nine, nine), (nine, ()), ((), nine),
                               (reducible, eight), ((), reducible), (nine + nine, ())]:
            with self.assertRaises(TooLarge) as context:
                common_part(product, other)
            self.assertEqual(context.exception.limit, 8)

    def test_the_result_is_new(self):
        product, other = parse_product("a?b?"), parse_product("b?{a}*")
        common_part(product, other).clear()
        common_part(product, other).append("x")
        self.assertEqual(common_part(product, other), [(("opt", "a"),), (("opt", "b"),)])
        common_part((), ()).clear()
        self.assertEqual(common_part((), ()), [()])

    def test_example(self):
        parts = common_part(parse_product("a?b?"), parse_product("b?{a}*"))
        self.assertEqual([format_product(part) for part in parts], ["a?", "b?"])


if __name__ == "__main__":
    unittest.main()
