"""Operations on closed languages."""

from downwords.errors import TooLarge
from downwords.languages import (
    Language, check_alphabets, check_factors, language_of_maximal, number_of_factors,
)
from downwords.products import (
    by_written_form, common_products, is_included, is_inside, letters_of, maximal_products,
    place_behind, reduce_product, star_product, subwords_product,
)

PRODUCT_LIMIT = 8
LANGUAGE_LIMIT = 24
SHUFFLE_LIMIT = 8


def union_of_all(alphabet, languages):
    """Return the Language of the words of all Languages of a list, which have the alphabet."""
    return Language(alphabet, [product for language in languages for product in language.products()])


def union(one, other):
    """Return the Language of the words of both Languages."""
    check_alphabets(one, other)
    return union_of_all(one.alphabet(), [one, other])


def check_limits(one, other):
    """Raise TooLarge if an intersection or a residual is beyond its limits."""
    for product in one.products() + other.products():
        if len(product) > PRODUCT_LIMIT:
            raise TooLarge(PRODUCT_LIMIT)
    check_factors(one, LANGUAGE_LIMIT)
    check_factors(other, LANGUAGE_LIMIT)


def is_in_all(product, products):
    """Tell whether a product is included in all of the products."""
    for other in products:
        if not is_included(product, other):
            return False
    return True


def is_in_larger_part(product, rows, parts):
    """Tell whether a product is included in a larger one of the common part of a row.

    A part that has the product has no larger one, since its products are maximal.
    """
    for row, part in zip(rows, parts):
        if product not in part and is_in_all(product, row):
            return True
    return False


def union_of_common_parts(alphabet, rows):
    """Return the Language of the words that are common to all products of some row.

    Comparing the products with the rows is faster than with each other: rows are few and short.
    """
    parts = [{product: True for product in common_products(row)} for row in rows]
    found = {}
    for part in parts:
        for product in part:
            if not is_in_larger_part(product, rows, parts):
                found[product] = True
    return language_of_maximal(alphabet, by_written_form(found))


def intersection(one, other):
    """Return the Language of the words that both Languages have."""
    check_alphabets(one, other)
    check_limits(one, other)
    rows = [[product, partner] for product in one.products() for partner in other.products()]
    return union_of_common_parts(one.alphabet(), rows)


def stars_among(factors):
    """Return the stars among the factors."""
    return tuple([factor for factor in factors if factor[0] == "star"])


def options_among(factors):
    """Return the optional letters among the factors."""
    return tuple([factor for factor in factors if factor[0] == "opt"])


def maximal_tails(ends, products):
    """Return a dict from each end to a dict with the maximal products of it and a product behind it."""
    found = {}
    for end in ends:
        found[end] = {tail: True for tail in maximal_products([end + product for product in products])}
    return found


def maximal_heads(products, starts):
    """Return a dict from each start to a dict with the maximal products of a product and the start."""
    found = {}
    for start in starts:
        found[start] = {head: True for head in maximal_products([product + start for product in products])}
    return found


def concatenation(one, other):
    """Return the Language of a word of the first one followed by a word of the second one."""
    check_alphabets(one, other)
    firsts, seconds = one.products(), other.products()
    tails = maximal_tails(sorted({stars_among(product[-1:]) for product in firsts}), seconds)
    heads = maximal_heads(firsts, sorted({stars_among(product[:1]) for product in seconds}))
    found = {}
    for first in firsts:
        for second in seconds:
            # A pair is inside another one only if both have the same first or the same second product:
            # else its first one would reach into the other second one, and even the whole of that
            # has no room for its second one. Of the same product, only a star where they meet matters.
            end, start = stars_among(first[-1:]), stars_among(second[:1])
            if reduce_product(end + second) in tails[end] and reduce_product(first + start) in heads[start]:
                found[reduce_product(first + second)] = True
    return language_of_maximal(one.alphabet(), by_written_form(found))


def reversal(language):
    """Return the Language of the words read backwards."""
    products = [product[::-1] for product in language.products()]
    return language_of_maximal(language.alphabet(), by_written_form(products))


def star(language):
    """Return the Language of all concatenations of words of a Language."""
    return Language(language.alphabet(), [star_product(language.letters())])


def shuffled_products(product, other):
    """Return products for all words that are divided between words of two products."""
    if product == () or other == ():
        return [product + other]
    # A star goes on while the other product does, until the rest of its own product begins.
    start = star_product(letters_of(stars_among([product[0], other[0]])))
    own = [options_among(product[:1]) + rest for rest in shuffled_products(product[1:], other)]
    others = [options_among(other[:1]) + rest for rest in shuffled_products(product, other[1:])]
    return [start + rest for rest in own + others]


def shuffle(one, other):
    """Return the Language of the words that are divided between words of both Languages."""
    check_alphabets(one, other)
    if number_of_factors(one) + number_of_factors(other) > SHUFFLE_LIMIT:
        raise TooLarge(SHUFFLE_LIMIT)
    found = []
    for product in one.products():
        for partner in other.products():
            found.extend(shuffled_products(product, partner))
    return Language(one.alphabet(), found)


def rests_behind(product, language):
    """Return the maximal products of the words that may follow all words of a product in a Language."""
    found = []
    for other in language.products():
        place = place_behind(product, other, 0)
        if place is not None:
            found.append(other[place:])
    return maximal_products(found)


def derivative(language, word):
    """Return the Language of the words that are in a Language if the word is put in front of them."""
    return language_of_maximal(language.alphabet(), rests_behind(subwords_product(word), language))


def is_narrower(row, other):
    """Tell whether each product of the other row includes one of the row."""
    for product in other:
        if not any([is_included(part, product) for part in row]):
            return False
    return True


def without_narrower(rows):
    """Return the rows that are not narrower than another one; of equal ones, one is kept."""
    kept = []
    for row in rows:
        if not any([is_narrower(row, other) for other in kept]):
            kept = [other for other in kept if not is_narrower(other, row)] + [row]
    return kept


def narrowed(row, products):
    """Return rows for the words that are common to all products of a row and are in one of the others."""
    if any([is_inside(part, products) for part in row]):
        return [row]
    found = []
    for product in products:
        found.append([part for part in row if not is_included(product, part)] + [product])
    return found


def residual(one, other):
    """Return the Language of the words that may follow every word of the first one in the second one.

    For each product of the first one, the words are in one of some rests of the second one. A row
    holds one of these rests for each product. Without the narrower rows, there are few.
    """
    check_alphabets(one, other)
    check_limits(one, other)
    rows = [[star_product(one.alphabet())]]
    for product in one.products():
        rests = rests_behind(product, other)
        rows = without_narrower([part for row in rows for part in narrowed(row, rests)])
    return union_of_common_parts(one.alphabet(), rows)
