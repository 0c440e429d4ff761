"""What several tests need: odd objects, and slow ways to the same answers."""

import itertools
import random

from downwords.errors import TooLarge
from downwords.grammars import Grammar
from downwords.languages import Language
from downwords.products import format_product, is_included, is_product, reduce_product
from downwords.workbench import Workbench


def nested(depth, wrap):
    """An object that is nested as deep as the number says."""
    thing = "a"
    for _ in range(depth):
        thing = wrap(thing)
    return thing


DEEP = [
    nested(200, lambda thing: [thing]),
    nested(200, lambda thing: (thing,)),
    nested(200, lambda thing: {"a": thing}),
    nested(199, lambda thing: ("opt", thing)),
]

# No text is among these objects.
NOT_TEXTS = [
    None, True, False, 0, 1, -1, 97, 10 ** 40,
    [], ["a"], ["a", "b"], ["ab"], [""], (), ("a",), ("a", "b"), ("ab",),
    {}, {"a": "b"}, {"a": 1, "b": 2}, {0: "a"}, TooLarge(12),
    Language("ab", []), Language("a", [(("opt", "a"),)]), [Language("ab", [()])], (Language("ab", [()]),),
    Grammar("ab", []), [Grammar("ab", [("S", "a")])], (Grammar("ab", [("S", "a")]),), [("S", "a")], ("S", "a"),
    Workbench("ab"), [Workbench("abc")], (Workbench("a"),), {"a": Workbench("ab")},
] + DEEP

# None of these texts is an alphabet, a word over "abc" or a written form.
ODD_TEXTS = [
    "A", "AB", "aB", "0", "12", " ", "a ", " a", "a b", "\n", "a\n", "\na", "ab\n",
    "-a", "a-", "~", "?", "*", "{", "}", "{}", "a{", "a_", "a.b", "`", "[", "@",
]


def all_words(alphabet, most):
    """All words with at most so many letters, in shortlex order."""
    words = []
    for length in range(most + 1):
        words += ["".join(row) for row in itertools.product(alphabet, repeat=length)]
    return words


def all_subwords(word):
    """All subwords of a word, as a set."""
    found = {""}
    for letter in word:
        found |= {start + letter for start in found}
    return found


def all_factors(alphabet):
    """All factors over an alphabet."""
    stars = []
    for size in range(1, len(alphabet) + 1):
        stars += ["".join(row) for row in itertools.combinations(alphabet, size)]
    return [("opt", letter) for letter in alphabet] + [("star", letters) for letters in stars]


def all_products(alphabet, most):
    """All products with at most so many factors."""
    products = []
    for size in range(most + 1):
        products += list(itertools.product(all_factors(alphabet), repeat=size))
    return products


def some_products(alphabet, size, many, seed):
    """Some products of exactly so many factors, the same ones in every run."""
    source = random.Random(seed)
    factors = all_factors(alphabet)
    return [tuple(source.choice(factors) for _ in range(size)) for _ in range(many)]


def divides(product, word):
    """Try all ways to divide a word between the factors of a product."""
    if not product:
        return word == ""
    kind, letters = product[0]
    for cut in range(len(word) + 1):
        part = word[:cut]
        if kind == "opt" and part not in ("", letters):
            continue
        if kind == "star" and set(part) - set(letters):
            continue
        if divides(product[1:], word[cut:]):
            return True
    return False


def language(product, alphabet, most):
    """The words of a product with at most so many letters, as a set."""
    return {word for word in all_words(alphabet, most) if divides(product, word)}


def words_of(products, alphabet, most):
    """The words of a union of products with at most so many letters, as a set."""
    found = set()
    for product in products:
        found |= language(product, alphabet, most)
    return found


def joined(one, other, most):
    """All words of one set followed by words of the other one, with at most so many letters."""
    return {start + end for start in one for end in other if len(start + end) <= most}


def in_shortlex(words):
    """The words sorted by length first."""
    return sorted(words, key=lambda word: (len(word), word))


def some_languages(alphabet, sizes, many, seed):
    """Some Languages of products of these sizes, perhaps fewer and shorter ones, the same in every run."""
    rows = [some_products(alphabet, size, many, seed * 1000 + at) for at, size in enumerate(sizes)]
    return [Language(alphabet, [row[at] for row in rows]) for at in range(many)]


def edge_languages(alphabet):
    """The language without words, that of the empty word, the full one, and a few between them."""
    full = (("star", alphabet),)
    letters = [(("opt", letter),) for letter in alphabet]
    stars = [(("star", letter),) for letter in alphabet]
    lists = [[], [()], [full], letters, stars, [letters[0]], [stars[-1]], [letters[0] * 2, stars[-1]]]
    return [Language(alphabet, products) for products in lists]


def large_language(alphabet, sizes, seed):
    """A Language with products of exactly these numbers of factors, none of which is superfluous."""
    source = random.Random(seed)
    factors = [factor for factor in all_factors(alphabet) if factor[1] != alphabet]
    found = Language(alphabet, [])
    while len(found.products()) < len(sizes):
        # Products that leave no room for the others are given up after a while.
        found = Language(alphabet, [])
        for size in [size for size in sorted(sizes) for _ in range(100)]:
            if sum(len(product) == size for product in found.products()) < sizes.count(size):
                larger = Language(alphabet, found.products() + [large_product(factors, size, source)])
                if len(larger.products()) > len(found.products()):
                    found = larger
    return found


def large_product(factors, size, source):
    """A reduced product of exactly so many factors."""
    product = ()
    while len(product) < size:
        longer = product + (source.choice(factors),)
        if reduce_product(longer) == longer:
            product = longer
    return product


def check_one_list(test, found):
    """The products of a Language are reduced, sorted, and none is included in another one."""
    products = found.products()
    test.assertIs(type(products), list)
    forms = [format_product(product) for product in products]
    test.assertEqual(forms, sorted(set(forms)))
    for product in products:
        test.assertTrue(is_product(found.alphabet(), product))
        test.assertEqual(reduce_product(product), product)
    for one, other in itertools.permutations(products, 2):
        test.assertFalse(is_included(one, other), (one, other))
    test.assertEqual(found, Language(found.alphabet(), products))


def raised(error, function, *arguments):
    """The fields of the error that a call raises, or None if it raises no such error."""
    try:
        function(*arguments)
    except error as found:
        return vars(found)
    return None
