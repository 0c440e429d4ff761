"""Tables of Languages that bound what the symbols of a grammar derive."""

from downwords.closures import closures_of_reached
from downwords.grammars import is_symbol
from downwords.languages import Language
from downwords.products import latest_start, place_behind, subwords_product

ENTRY_LIMIT = 50


def closure_table(grammar):
    """Return a dict from all symbols, ascending, to their closures."""
    found = closures_of_reached(grammar, grammar.symbols())
    nothing = Language(grammar.alphabet(), [])
    return {symbol: found.get(symbol, nothing) for symbol in grammar.symbols()}


def is_entry(alphabet, thing):
    """Tell whether the object is a Language that may stand in a table."""
    if not isinstance(thing, Language) or thing.alphabet() != alphabet:
        return False
    return len(thing.products()) <= ENTRY_LIMIT


def is_table(grammar, thing):
    """Tell whether the object is a table for the grammar."""
    symbols = grammar.symbols()
    if not isinstance(thing, dict) or len(thing) != len(symbols):
        return False
    return all([symbol in thing and is_entry(grammar.alphabet(), thing[symbol]) for symbol in symbols])


def rows_behind(rows, products, others):
    """Return rows of the places in the other products behind each product, from each row of places on.

    None is the place where a product does not fit. Rows that are the same are listed once.
    """
    found = {}
    for row in rows:
        for product in products:
            places = [None if at is None else place_behind(product, other, at) for at, other in zip(row, others)]
            found[tuple(places)] = True
    return list(found)


def fits_behind(places, starts):
    """Tell whether some place is not behind the latest start in the same product."""
    for place, start in zip(places, starts):
        if place is not None and start is not None and place <= start:
            return True
    return False


def fits_inside(parts, others):
    """Tell whether all concatenations of one product of each part are included in one of the others.

    They may be a hundred thousand, so they are not built: the first parts are read from the left, the
    last one from the right, and only the places where they meet are compared.
    """
    *firsts, last = parts
    rows = [tuple([0 for other in others])]
    for products in firsts:
        rows = rows_behind(rows, products, others)
    for product in last:
        starts = [latest_start(product, other) for other in others]
        for places in rows:
            if not fits_behind(places, starts):
                return False
    return True


def is_upper_bound(grammar, thing):
    """Tell whether the object is a table in which every production stays inside its entry."""
    if not is_table(grammar, thing):
        return False
    for symbol, items in grammar.productions():
        # The empty product in front changes nothing, but a production without items needs a part.
        parts = [[()]]
        for item in items:
            parts.append(thing[item].products() if is_symbol(item) else [subwords_product(item)])
        if not fits_inside(parts, thing[symbol].products()):
            return False
    return True
