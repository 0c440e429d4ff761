"""Closed languages: unions of products."""

from downwords.errors import AlphabetMismatch, InvalidAlphabet, InvalidProduct, InvalidText, TooLarge, TooMany
from downwords.products import (
    format_product, is_inside, is_product, letters_of, maximal_products, parse_product, star_product,
    subwords_product,
)
from downwords.words import is_alphabet

NO_WORDS = "none"


class Language:
    """A closed language over an alphabet."""

    def __init__(self, alphabet, products):
        if not is_alphabet(alphabet):
            raise InvalidAlphabet()
        if not isinstance(products, (list, tuple)):
            raise InvalidProduct(None)
        for index, product in enumerate(products):
            if not is_product(alphabet, product):
                raise InvalidProduct(index)
        self.base = alphabet
        self.maximal = maximal_products(products)

    def alphabet(self):
        """Return the alphabet."""
        return self.base

    def products(self):
        """Return the maximal reduced products, sorted by written form."""
        return list(self.maximal)

    def contains(self, word):
        """Tell whether a word is in the language."""
        return is_inside(subwords_product(word), self.maximal)

    def is_empty(self):
        """Tell whether the language has no words."""
        return len(self.maximal) == 0

    def is_full(self):
        """Tell whether the language has all words over its alphabet."""
        return self.maximal == [star_product(self.base)]

    def letters(self):
        """Return the letters that occur in the words."""
        return letters_of([factor for product in self.maximal for factor in product])

    def __eq__(self, other):
        return isinstance(other, Language) and self.base == other.base and self.maximal == other.maximal

    def __str__(self):
        return f"{self.base}: {format_products(self.maximal)}"


def format_products(products):
    """Return the written form of the products of a Language."""
    if len(products) == 0:
        return NO_WORDS
    return " + ".join([format_product(product) for product in products])


def parse_products(text):
    """Return the products that are written in a text."""
    if text == NO_WORDS:
        return []
    return [parse_product(part) for part in text.split(" + ")]


def language_of_maximal(alphabet, products):
    """Return the Language of products that are maximal and sorted already.

    There may be thousands of them, so they are not compared with each other again.
    """
    language = Language(alphabet, [])
    language.maximal = list(products)
    return language


def parse_language(text):
    """Return the Language with the written form."""
    if not isinstance(text, str):
        raise InvalidText(0)
    alphabet, sign, rest = text.partition(": ")
    products = parse_products(rest)
    if not is_alphabet(alphabet) or not all([is_product(alphabet, product) for product in products]):
        raise InvalidText(0)
    language = Language(alphabet, products)
    # Each Language has one written form only, so any other text of the same words is refused here.
    if str(language) != text:
        raise InvalidText(0)
    return language


def closure_of_words(alphabet, words):
    """Return the Language of all subwords of the words."""
    return Language(alphabet, [subwords_product(word) for word in words])


def check_alphabets(one, other):
    """Raise AlphabetMismatch if the Languages have different alphabets."""
    if one.alphabet() != other.alphabet():
        raise AlphabetMismatch()


def number_of_factors(language):
    """Return how many factors the products of a Language have together."""
    return sum([len(product) for product in language.products()])


def check_factors(language, limit):
    """Raise TooLarge if the products of a Language together have more factors than the limit."""
    if number_of_factors(language) > limit:
        raise TooLarge(limit)


def check_products(language, limit):
    """Raise TooMany if a Language has more products than the limit."""
    if len(language.products()) > limit:
        raise TooMany(limit)


def is_subset(one, other):
    """Tell whether all words of a Language are in the other one."""
    check_alphabets(one, other)
    larger = other.products()
    return all([is_inside(product, larger) for product in one.products()])
