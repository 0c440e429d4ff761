"""Products of optional letters and stars."""

from downwords.errors import InvalidText, TooLarge
from downwords.words import MOST_LETTERS, is_alphabet, is_ascending, is_word

EMPTY_FORM = "-"
COMMON_PART_LIMIT = 8


def is_factor(alphabet, thing):
    """Tell whether the object is a factor over the alphabet."""
    if not isinstance(thing, tuple) or len(thing) != 2:
        return False
    kind, letters = thing
    if not is_word(alphabet, letters):
        return False
    if kind == "opt":
        return len(letters) == 1
    return kind == "star" and len(letters) > 0 and is_ascending(letters)


def is_product(alphabet, thing):
    """Tell whether the object is a product over the alphabet."""
    return isinstance(thing, tuple) and all([is_factor(alphabet, factor) for factor in thing])


def format_factor(factor):
    """Return the written form of a factor."""
    kind, letters = factor
    if kind == "opt":
        return letters + "?"
    return "{" + letters + "}*"


def format_product(product):
    """Return the written form of a product."""
    if len(product) == 0:
        return EMPTY_FORM
    return "".join([format_factor(factor) for factor in product])


def read_factor(text, start):
    """Return what is written like a factor at an index; its letters are not checked."""
    if text[start] == "{":
        end = text.find("}*", start)
        if end < 0:
            raise InvalidText(0)
        return ("star", text[start + 1:end])
    if text[start + 1:start + 2] != "?":
        raise InvalidText(0)
    return ("opt", text[start])


def read_factors(text):
    """Return a tuple of what is written like factors; their letters are not checked."""
    factors = []
    start = 0
    while start < len(text):
        factor = read_factor(text, start)
        factors.append(factor)
        start += len(format_factor(factor))
    return tuple(factors)


def letters_of(factors):
    """Return the letters that occur in factors, ascending."""
    return "".join(sorted(set("".join([letters for kind, letters in factors]))))


def parse_product(text):
    """Return the product with the written form."""
    if not isinstance(text, str):
        raise InvalidText(0)
    if text == EMPTY_FORM:
        return ()
    product = read_factors(text)
    alphabet = letters_of(product)
    # Not being an alphabet also refuses the empty text and all signs that are no letters.
    if not is_alphabet(alphabet) or not is_product(alphabet, product):
        raise InvalidText(0)
    return product


def swallows(factor, other):
    """Tell whether a factor is a star that contains all letters of the other one."""
    return factor[0] == "star" and all([letter in factor[1] for letter in other[1]])


def covers(factor, other):
    """Tell whether the language of a factor contains that of the other one."""
    return factor == other or swallows(factor, other)


def reduce_product(product):
    """Return the reduced product with the same language."""
    kept = []
    for factor in product:
        while kept and swallows(factor, kept[-1]):
            kept.pop()
        if not kept or not swallows(kept[-1], factor):
            kept.append(factor)
    return tuple(kept)


def unfold(product, count):
    """Return the unfolding of a product with a count."""
    return "".join([letters if kind == "opt" else letters * count for kind, letters in product])


def behind(product, place):
    """Return the index from which a product goes on after the factor there took a letter or a star."""
    if product[place][0] == "star":
        return place
    return place + 1


def place_behind(product, other, start):
    """Return the least index of the other product behind the words of a product.

    The other one is read from the start index on. None says that not all words fit in there.
    """
    place = start
    for factor in product:
        # The earliest factor that covers this one leaves the most room for the rest.
        # The words of a star fit into no row of factors of which none covers the star.
        while place < len(other) and not covers(other[place], factor):
            place += 1
        if place == len(other):
            return None
        place = behind(other, place)
    return place


def latest_start(product, other):
    """Return the greatest index from which on all words of a product fit into the other one, or None."""
    start = end = len(other)
    for factor in reversed(product):
        # The latest factor that covers this one leaves the most room for what stands in front.
        while end > 0 and not covers(other[end - 1], factor):
            end -= 1
        if end == 0:
            return None
        start = end - 1
        if other[start][0] == "opt":
            end = start
    return start


def is_included(product, other):
    """Tell whether the language of a product is a subset of that of the other one."""
    return place_behind(product, other, 0) is not None


def subwords_product(word):
    """Return the product whose language is all subwords of a word."""
    return tuple([("opt", letter) for letter in word])


def star_product(letters):
    """Return the product whose language is all words over the letters, which may be none."""
    if letters == "":
        return ()
    return (("star", letters),)


def accepts(product, word):
    """Tell whether a word is in the language of a product."""
    return is_included(subwords_product(word), product)


def is_inside(product, products):
    """Tell whether a product is included in one of the products."""
    for other in products:
        if is_included(product, other):
            return True
    return False


def size_of_product(product):
    """Return a tuple that is greater for a reduced product than for each other reduced one inside it.

    A star takes in either the same star alone or only factors with fewer letters. So the numbers
    of the stars, those with the most letters first, and then of the optional letters decide.
    """
    sizes = [len(letters) if kind == "star" else 0 for kind, letters in product]
    return tuple([sizes.count(size) for size in reversed(range(MOST_LETTERS + 1))])


def by_written_form(products):
    """Return the products sorted by their written forms."""
    return sorted(products, key=format_product)


def maximal_products(products):
    """Return the reduced products that are included in no other one, sorted by written form."""
    groups = {}
    for product in products:
        reduced = reduce_product(product)
        group = groups.setdefault(size_of_product(reduced), {})
        group[reduced] = True
    maximal = []
    for size in sorted(groups, reverse=True):
        # Products of one size are not inside each other, so they need no comparing.
        maximal = maximal + [product for product in groups[size] if not is_inside(product, maximal)]
    return by_written_form(maximal)


def in_front(factor, product):
    """Return the reduced product of a factor and a reduced product of which it swallows nothing."""
    if product and swallows(product[0], factor):
        return product
    return (factor, *product)


def places_behind(product, others, places):
    """Return the places of all other products behind the words of a product, each from its place on.

    None says that not all words fit into each of them.
    """
    found = []
    for other, place in zip(others, places):
        after = place_behind(product, other, place)
        if after is None:
            return None
        found.append(after)
    return tuple(found)


def places_by_letter(products, places):
    """Return a dict from each letter that may come next in all products to their places behind it."""
    letters = letters_of(products[0])
    found = {letter: places_behind(subwords_product(letter), products, places) for letter in letters}
    return {letter: found[letter] for letter in letters if found[letter] is not None}


def branch_of(letter, stay, rests):
    """Return a dict from each product of the star of the stay, the letter and a rest to that rest."""
    found = {}
    for rest in rests:
        product = in_front(("opt", letter), rest)
        # The letter is not in the star, so the star swallows no factor that has the letter.
        if stay != "":
            product = in_front(("star", stay), product)
        found[product] = rest
    return found


def is_in_larger_branch(product, start, products, steps, branches):
    """Tell whether a product is included in a larger one of another branch.

    The start is the product without the star that all branches begin with. A branch that has the
    product has no larger one, since no product of a branch is included in another one there.
    """
    for letter in branches:
        if product not in branches[letter] and places_behind(start, products, steps[letter]) is not None:
            return True
    return False


def join_branches(products, steps, branches):
    """Return the products of all branches that are not included in larger ones."""
    found = {}
    for letter in branches:
        for product, rest in branches[letter].items():
            start = (("opt", letter), *rest)
            if not is_in_larger_branch(product, start, products, steps, branches):
                found[product] = True
    return list(found)


def common_from(products, places, table):
    """Return the maximal reduced products of the common part of products, from a place of each on.

    The letters that leave all places as they are make a star. Behind it, each other letter
    begins a branch. The table keeps what is found, since branches meet again.
    """
    if places not in table:
        steps = places_by_letter(products, places)
        stay = "".join([letter for letter in steps if steps[letter] == places])
        branches = {}
        for letter in steps:
            if letter not in stay:
                branches[letter] = branch_of(letter, stay, common_from(products, steps[letter], table))
        if branches:
            table[places] = join_branches(products, steps, branches)
        else:
            table[places] = [star_product(stay)]
    return table[places]


def common_products(products):
    """Return the maximal reduced products of the common part of one or more products, in any order."""
    return common_from(products, tuple([0 for product in products]), {})


def common_part(product, other):
    """Return the maximal reduced products whose union is the common part, sorted."""
    if len(product) > COMMON_PART_LIMIT or len(other) > COMMON_PART_LIMIT:
        raise TooLarge(COMMON_PART_LIMIT)
    return by_written_form(common_products([product, other]))
