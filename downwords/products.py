"""Products of optional letters and stars."""

from downwords.errors import InvalidText, TooLarge
from downwords.words import is_alphabet, is_ascending, is_word

EMPTY_FORM = "-"
COMMON_PART_LIMIT = 8


def is_factor(alphabet, thing):
    """Tell whether the object is a factor over the alphabet."""
    if not isinstance(thing, tuple) or len(thing) != 2:
        return False
    kind, letters = thing
    if not is_word(alphabet, letters):
        return False
    if kind == "opt":
        return len(letters) == 1
    return kind == "star" and len(letters) > 0 and is_ascending(letters)


def is_product(alphabet, thing):
    """Tell whether the object is a product over the alphabet."""
    return isinstance(thing, tuple) and all([is_factor(alphabet, factor) for factor in thing])


def format_factor(factor):
    """Return the written form of a factor."""
    kind, letters = factor
    if kind == "opt":
        return letters + "?"
    return "{" + letters + "}*"


def format_product(product):
    """Return the written form of a product."""
    if len(product) == 0:
        return EMPTY_FORM
    return "".join([format_factor(factor) for factor in product])


def read_factor(text, start):
    """Return what is written like a factor at an index; its letters are not checked."""
    if text[start] == "{":
        end = text.find("}*", start)
        if end < 0:
            raise InvalidText(0)
        return ("star", text[start + 1:end])
    if text[start + 1:start + 2] != "?":
        raise InvalidText(0)
    return ("opt", text[start])


def read_factors(text):
    """Return a tuple of what is written like factors; their letters are not checked."""
    factors = []
    start = 0
    while start < len(text):
        factor = read_factor(text, start)
        factors.append(factor)
        start += len(format_factor(factor))
    return tuple(factors)


def parse_product(text):
    """Return the product with the written form."""
    if not isinstance(text, str):
        raise InvalidText(0)
    if text == EMPTY_FORM:
        return ()
    product = read_factors(text)
    characters = "".join([letters for kind, letters in product])
    alphabet = "".join(sorted(set(characters)))
    # Not being an alphabet also refuses the empty text and all signs that are no letters.
    if not is_alphabet(alphabet) or not is_product(alphabet, product):
        raise InvalidText(0)
    return product


def swallows(factor, other):
    """Tell whether a factor is a star that contains all letters of the other one."""
    return factor[0] == "star" and all([letter in factor[1] for letter in other[1]])


def covers(factor, other):
    """Tell whether the language of a factor contains that of the other one."""
    return factor == other or swallows(factor, other)


def reduce_product(product):
    """Return the reduced product with the same language."""
    kept = []
    for factor in product:
        while kept and swallows(factor, kept[-1]):
            kept.pop()
        if not kept or not swallows(kept[-1], factor):
            kept.append(factor)
    return tuple(kept)


def unfold(product, count):
    """Return the unfolding of a product with a count."""
    return "".join([letters if kind == "opt" else letters * count for kind, letters in product])


def is_included(product, other):
    """Tell whether the language of a product is a subset of that of the other one."""
    place = 0
    for factor in product:
        # The earliest factor that covers this one leaves the most room for the rest.
        # The words of a star fit into no row of factors of which none covers the star.
        while place < len(other) and not covers(other[place], factor):
            place += 1
        if place == len(other):
            return False
        if other[place][0] == "opt":
            place += 1
    return True


def subwords_product(word):
    """Return the product whose language is all subwords of a word."""
    return tuple([("opt", letter) for letter in word])


def accepts(product, word):
    """Tell whether a word is in the language of a product."""
    return is_included(subwords_product(word), product)


def is_inside_another(product, products):
    """Tell whether a product is included in another one of the products."""
    for other in products:
        if other != product and is_included(product, other):
            return True
    return False


def maximal_products(products):
    """Return the reduced products that are included in no other one, sorted by written form."""
    reduced = {}
    for product in products:
        short = reduce_product(product)
        reduced[format_product(short)] = short
    distinct = [reduced[form] for form in sorted(reduced)]
    return [product for product in distinct if not is_inside_another(product, distinct)]


def common_factor(factor, other):
    """Return the factor for the common part of two factors, or None if they share no letter."""
    letters = "".join([letter for letter in factor[1] if letter in other[1]])
    if letters == "":
        return None
    if factor[0] == "star" and other[0] == "star":
        return ("star", letters)
    return ("opt", letters)


def behind(product, start):
    """Return the index from which a product goes on after the factor there took one letter."""
    if product[start][0] == "star":
        return start
    return start + 1


def common_part_from(product, other, start, place, table):
    """Return the common part of two products from an index of each.

    The table holds the common parts from all later indexes.
    """
    if start == len(product) or place == len(other):
        return [()]
    shared = common_factor(product[start], other[place])
    if shared is not None and shared[0] == "opt":
        rests = table[behind(product, start), behind(other, place)]
    else:
        # After the shared letters, the next letter is missing from one of the two factors.
        rests = table[start + 1, place] + table[start, place + 1]
    if shared is None:
        return maximal_products(rests)
    return maximal_products([(shared, *rest) for rest in rests])


def common_part(product, other):
    """Return the maximal reduced products whose union is the common part, sorted."""
    if len(product) > COMMON_PART_LIMIT or len(other) > COMMON_PART_LIMIT:
        raise TooLarge(COMMON_PART_LIMIT)
    table = {}
    for start in reversed(range(len(product) + 1)):
        for place in reversed(range(len(other) + 1)):
            table[start, place] = common_part_from(product, other, start, place, table)
    return table[0, 0]
