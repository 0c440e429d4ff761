"""Minimal excluded words, and the languages that avoid words."""

from downwords.counting import automaton
from downwords.errors import TooLarge
from downwords.languages import Language, check_factors
from downwords.operations import union_of_common_parts
from downwords.products import star_product
from downwords.words import in_shortlex_order, minimal_words

ONE_PRODUCT_LIMIT = 12
MORE_PRODUCTS_LIMIT = 6
AVOIDING_LIMIT = 14


def is_minimal(language, word):
    """Tell whether all proper subwords of an excluded word are in the Language."""
    # It is enough to delete one letter: deleting more leads to subwords of these.
    return all([language.contains(word[:at] + word[at + 1:]) for at in range(len(word))])


def words_to_the_end(language):
    """Return the excluded words of which each letter leads to another state or out of the automaton.

    A letter that changes nothing may be deleted, so all minimal excluded words are among these.
    """
    rows = automaton(language)
    found = []
    paths = [("", 0)]
    while paths:
        word, state = paths.pop()
        for letter, after in zip(language.alphabet(), rows[state]):
            if after is None:
                found.append(word + letter)
            elif after != state:
                paths.append((word + letter, after))
    return found


def excluded_words(language):
    """Return the minimal excluded words of a Language, in shortlex order."""
    if language.is_empty():
        return [""]
    if len(language.products()) == 1:
        check_factors(language, ONE_PRODUCT_LIMIT)
    else:
        check_factors(language, MORE_PRODUCTS_LIMIT)
    words = words_to_the_end(language)
    return in_shortlex_order([word for word in words if is_minimal(language, word)])


def avoiding_product(alphabet, word):
    """Return the product of all words of which a word, which is not empty, is no subword."""
    factors = ()
    for letter in word:
        factors = factors + star_product(alphabet.replace(letter, "")) + (("opt", letter),)
    # All letters of the word but the last one may be there, each behind the one before.
    return factors[:-1]


def avoiding(alphabet, words):
    """Return the Language of all words of which none of the words is a subword."""
    if sum([len(word) for word in words]) > AVOIDING_LIMIT:
        raise TooLarge(AVOIDING_LIMIT)
    if "" in words:
        return Language(alphabet, [])
    products = [avoiding_product(alphabet, word) for word in minimal_words(words)]
    return union_of_common_parts(alphabet, [[star_product(alphabet), *products]])
