"""What several tests need: odd objects, and slow ways to the same answers."""

import itertools
import random

from downwords.errors import TooLarge


def nested(depth, wrap):
    """An object that is nested as deep as the number says."""
    thing = "a"
    for _ in range(depth):
        thing = wrap(thing)
    return thing


DEEP = [
    nested(200, lambda thing: [thing]),
    nested(200, lambda thing: (thing,)),
    nested(200, lambda thing: {"a": thing}),
    nested(199, lambda thing: ("opt", thing)),
]

# No text is among these objects.
NOT_TEXTS = [
    None, True, False, 0, 1, -1, 97, 10 ** 40,
    [], ["a"], ["a", "b"], ["ab"], [""], (), ("a",), ("a", "b"), ("ab",),
    {}, {"a": "b"}, {"a": 1, "b": 2}, {0: "a"}, TooLarge(12),
] + DEEP

# None of these texts is an alphabet, a word over "abc" or a written form.
ODD_TEXTS = [
    "A", "AB", "aB", "0", "12", " ", "a ", " a", "a b", "\n", "a\n", "\na", "ab\n",
    "-a", "a-", "~", "?", "*", "{", "}", "{}", "a{", "a_", "a.b", "`", "[", "@",
]


def all_words(alphabet, most):
    """All words with at most so many letters, in shortlex order."""
    words = []
    for length in range(most + 1):
        words += ["".join(row) for row in itertools.product(alphabet, repeat=length)]
    return words


def all_subwords(word):
    """All subwords of a word, as a set."""
    found = {""}
    for letter in word:
        found |= {start + letter for start in found}
    return found


def all_factors(alphabet):
    """All factors over an alphabet."""
    stars = []
    for size in range(1, len(alphabet) + 1):
        stars += ["".join(row) for row in itertools.combinations(alphabet, size)]
    return [("opt", letter) for letter in alphabet] + [("star", letters) for letters in stars]


def all_products(alphabet, most):
    """All products with at most so many factors."""
    products = []
    for size in range(most + 1):
        products += list(itertools.product(all_factors(alphabet), repeat=size))
    return products


def some_products(alphabet, size, many, seed):
    """Some products of exactly so many factors, the same ones in every run."""
    source = random.Random(seed)
    factors = all_factors(alphabet)
    return [tuple(source.choice(factors) for _ in range(size)) for _ in range(many)]


def divides(product, word):
    """Try all ways to divide a word between the factors of a product."""
    if not product:
        return word == ""
    kind, letters = product[0]
    for cut in range(len(word) + 1):
        part = word[:cut]
        if kind == "opt" and part not in ("", letters):
            continue
        if kind == "star" and set(part) - set(letters):
            continue
        if divides(product[1:], word[cut:]):
            return True
    return False


def language(product, alphabet, most):
    """The words of a product with at most so many letters, as a set."""
    return {word for word in all_words(alphabet, most) if divides(product, word)}
