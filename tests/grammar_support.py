"""Grammars that are drawn, and slow ways to what is said of them."""

import itertools
import random

from downwords.bounds import closure_table
from downwords.errors import TooMany
from downwords.grammars import Grammar
from downwords.languages import Language
from downwords.products import is_included
from support import joined


def some_items(source, alphabet, symbols, share):
    """Drawn items; the share says how many of them are letters."""
    size = source.choice([0, 1, 1, 2, 2, 2, 3, 3])
    return "".join(source.choice(alphabet if source.random() < share else symbols) for _ in range(size))


def some_grammar(source, alphabet, most=16, share=0.6):
    """A drawn grammar with at most so many productions."""
    symbols = "".join(sorted(source.sample("ABCDEFGSTXYZ", source.randrange(1, 7))))
    many = source.randrange(0, most + 1)
    productions = []
    for _ in range(many):
        productions.append((source.choice(symbols), some_items(source, alphabet, symbols, share)))
    return Grammar(alphabet, productions)


def some_grammars(alphabet, many, seed, most=16, share=0.6):
    """So many drawn grammars, the same ones in every run."""
    source = random.Random(seed)
    return [some_grammar(source, alphabet, most, share) for _ in range(many)]


def layered_grammar(source, alphabet, share=0.5):
    """A drawn grammar in which symbols use only later ones, or themselves now and then."""
    symbols = "ABCDEF"[:source.randrange(2, 7)]
    productions = []
    for at, symbol in enumerate(symbols):
        for _ in range(source.choice([1, 2, 2, 3])):
            later = symbols[at + 1:] or alphabet
            items = some_items(source, alphabet, later, share)
            if source.random() < 0.2 and len(items) < 3:
                place = source.randrange(len(items) + 1)
                items = items[:place] + symbol + items[place:]
            productions.append((symbol, items))
    return Grammar(alphabet, productions[:16])


def layered_grammars(alphabet, many, seed, share=0.5):
    """So many drawn grammars in layers, the same ones in every run."""
    source = random.Random(seed)
    return [layered_grammar(source, alphabet, share) for _ in range(many)]


def closed_words(grammar, most):
    """A dict from each symbol to the words with at most so many letters in its closure.

    The sets are grown until nothing is added.
    """
    found = {symbol: set() for symbol in grammar.symbols()}
    growing = True
    while growing:
        growing = False
        for symbol, items in grammar.productions():
            words = {""}
            for item in items:
                words = joined(words, found[item] if item.isupper() else {"", item}, most)
            if not words <= found[symbol]:
                found[symbol] |= words
                growing = True
    return found


def has_tree(grammar, symbol, height):
    """Whether a symbol derives a word by a tree that is not higher; letters have no height."""
    if height == 0:
        return False
    for own, items in grammar.productions():
        if own == symbol and all(has_tree(grammar, item, height - 1) for item in items if item.isupper()):
            return True
    return False


def slow_ranks(grammar):
    """The least height of a tree of each symbol that has one; none is higher than there are symbols."""
    found = {}
    for symbol in grammar.symbols():
        heights = [h for h in range(1, len(grammar.symbols()) + 1) if has_tree(grammar, symbol, h)]
        if heights:
            found[symbol] = heights[0]
    return found


def living_productions(grammar):
    """The productive productions."""
    alive = slow_ranks(grammar)
    return [(symbol, items) for symbol, items in grammar.productions()
            if all(item in alive for item in items if item.isupper())]


def slow_reach(grammar):
    """The set of pairs of symbols of which the first one reaches the second one by at least one use."""
    pairs = {(symbol, item) for symbol, items in living_productions(grammar) for item in items if item.isupper()}
    for _ in grammar.symbols():
        pairs |= {(one, far) for one, other in pairs for near, far in pairs if near == other}
    return pairs


def slow_components(grammar):
    """The components, by trying all symbols, one after the other."""
    pairs = slow_reach(grammar)
    alive = sorted(slow_ranks(grammar))
    own = {}
    for symbol in alive:
        own[symbol] = tuple(other for other in alive
                            if other == symbol or {(symbol, other), (other, symbol)} <= pairs)
    listed = []
    while len(listed) < len(set(own.values())):
        ready = []
        for component in set(own.values()) - set(listed):
            used = {own[other] for one, other in pairs if one in component} - {component}
            if used <= set(listed):
                ready.append(component)
        listed.append(min(ready))
    return listed


def slow_kinds(grammar):
    """The kinds of the components."""
    pairs = slow_reach(grammar)
    kinds = []
    for component in slow_components(grammar):
        if not any((symbol, symbol) in pairs for symbol in component):
            kinds.append("single")
            continue
        rows = [items for symbol, items in living_productions(grammar) if symbol in component]
        counts = [sum(item in component for item in items) for items in rows]
        kinds.append("branching" if max(counts) >= 2 else "linear")
    return kinds


def product_lists(alphabet, lists, limit):
    """The products of the concatenation of several lists of products, for each beginning of the row.

    A beginning with more products than the limit is the last one.
    """
    rows = [[()]]
    for products in lists:
        if len(rows[-1]) <= limit:
            longer = [one + other for one, other in itertools.product(rows[-1], products)]
            rows.append(Language(alphabet, longer).products())
    return rows


def letters_in(products):
    return "".join(sorted({letter for product in products for _, letters in product for letter in letters}))


def star_of(letters):
    return [(("star", letters),)] if letters else [()]


def slow_closures(grammar, limit=50):
    """Closures as lists of products, numbers of products that are limited, and side letters, by symbol.

    Everything is computed as the points [22] and [23] say it, for all symbols. The number of a symbol is
    the greatest one of all symbols that it reaches. If it is over the limit, the rest is not computed.
    """
    alphabet = grammar.alphabet()
    closures, numbers, sides = {}, {}, {}
    for component, kind in zip(slow_components(grammar), slow_kinds(grammar)):
        rows = [items for symbol, items in living_productions(grammar) if symbol in component]
        outer = [item for items in rows for item in items if item.isupper() and item not in component]
        worst = max([numbers[item] for item in outer], default=0)
        if worst > limit:
            numbers.update({symbol: worst for symbol in component})
            continue
        parts = {item: [(("opt", item),)] for item in alphabet}
        parts.update(closures)
        own_sides = None
        if kind == "branching":
            inner = [parts[item] for items in rows for item in items if item not in component]
            found = star_of(letters_in([product for products in inner for product in products]))
        else:
            found = []
            for items in rows:
                if not set(items) & set(component):
                    beginnings = product_lists(alphabet, [parts[item] for item in items], limit)
                    worst = max([worst] + [len(products) for products in beginnings])
                    found = Language(alphabet, found + beginnings[-1]).products()
            worst = max(worst, len(found))
        if kind == "linear" and worst <= limit:
            front, back = [], []
            for items in rows:
                for at, item in enumerate(items):
                    if item in component:
                        front += [product for other in items[:at] for product in parts[other]]
                        back += [product for other in items[at + 1:] for product in parts[other]]
            own_sides = (letters_in(front), letters_in(back))
            found = product_lists(alphabet, [star_of(own_sides[0]), found, star_of(own_sides[1])], limit)[-1]
        for symbol in component:
            closures[symbol] = found
            numbers[symbol] = max(worst, len(found))
            sides[symbol] = own_sides
    return closures, numbers, sides


def slow_is_upper_bound(grammar, table):
    """Put together all products, one of each entry, and look for each of them."""
    for symbol, items in grammar.productions():
        larger = table[symbol].products()
        parts = [table[item].products() if item.isupper() else [(("opt", item),)] for item in items]
        for row in itertools.product(*parts):
            product = sum(row, ())
            if not any(is_included(product, other) for other in larger):
                return False
    return True


def table_or_none(grammar):
    """The table of the closures, or None if one of them is too large."""
    try:
        return closure_table(grammar)
    except TooMany as error:
        assert error.limit == 50
        return None


def renamed(grammar, names):
    """The grammar with other symbols; the dict may say other letters, too, or none for a letter."""
    return Grammar(grammar.alphabet(), [
        (names.get(symbol, symbol), "".join(names.get(item, item) for item in items))
        for symbol, items in grammar.productions()
    ])
