"""Closures of the symbols of a grammar."""

from downwords.analysis import component_kind, components, inner_items, items_of_component, used_symbols
from downwords.grammars import check_symbol, is_symbol
from downwords.graphs import reached_from
from downwords.languages import Language, check_products, closure_of_words
from downwords.operations import concatenation, union_of_all
from downwords.products import star_product

CLOSURE_LIMIT = 50


def closure_of_items(alphabet, items, found):
    """Return the closure of a row of items; the dict has the closures of the symbols among them."""
    row = closure_of_words(alphabet, [""])
    for item in items:
        part = found[item] if is_symbol(item) else closure_of_words(alphabet, [item])
        row = concatenation(row, part)
        check_products(row, CLOSURE_LIMIT)
    return row


def closure_of_rows(alphabet, rows, found):
    """Return the union of the closures of several rows of items."""
    whole = union_of_all(alphabet, [closure_of_items(alphabet, items, found) for items in rows])
    check_products(whole, CLOSURE_LIMIT)
    return whole


def letters_of_items(items, found):
    """Return the letters that occur in the closures of items, ascending."""
    parts = [found[item].letters() if is_symbol(item) else item for item in items]
    return "".join(sorted(set("".join(parts))))


def sides_of_component(grammar, component, found):
    """Return the letters in front of the component's items and those behind them, of a linear component."""
    front, back = [], []
    for items in items_of_component(grammar, component):
        for inner in inner_items(items, component):
            before, item, after = items.partition(inner)
            front.append(before)
            back.append(after)
    return letters_of_items("".join(front), found), letters_of_items("".join(back), found)


def closure_of_component(grammar, component, found):
    """Return the closure that all symbols of a component have; those that it uses are in the dict."""
    alphabet = grammar.alphabet()
    kind = component_kind(grammar, component)
    rows = items_of_component(grammar, component)
    if kind == "branching":
        outer = [item for items in rows for item in items if item not in component]
        return Language(alphabet, [star_product(letters_of_items(outer, found))])
    # Productions with an item in the component add no more than the letters at its sides.
    base = closure_of_rows(alphabet, [items for items in rows if not inner_items(items, component)], found)
    if kind == "single":
        return base
    before, after = sides_of_component(grammar, component, found)
    front, back = [Language(alphabet, [star_product(letters)]) for letters in (before, after)]
    return concatenation(concatenation(front, base), back)


def closures_of_reached(grammar, symbols):
    """Return a dict from the symbols and all that are reached from them to their closures.

    It leaves out the symbols that are not productive.
    """
    used = used_symbols(grammar)
    wanted = sorted(set(symbols + [other for symbol in symbols for other in reached_from(used, symbol)]))
    found = {}
    for component in components(grammar):
        if component[0] in wanted:
            whole = closure_of_component(grammar, component, found)
            for symbol in component:
                found[symbol] = whole
    return found


def closure(grammar, symbol):
    """Return the Language of all subwords of the words that a symbol derives."""
    check_symbol(grammar, symbol)
    return closures_of_reached(grammar, [symbol]).get(symbol, Language(grammar.alphabet(), []))


def side_letters(grammar, symbol):
    """Return the letters in front of and behind the items of a symbol's linear component, or None."""
    check_symbol(grammar, symbol)
    found = closures_of_reached(grammar, [symbol])
    for component in components(grammar):
        if symbol in component and component_kind(grammar, component) == "linear":
            return sides_of_component(grammar, component, found)
    return None
