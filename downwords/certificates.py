"""Certificates that a word is in the closure of a symbol, or that it is not."""

from downwords.analysis import productive_productions, ranks
from downwords.bounds import closure_table, is_upper_bound
from downwords.grammars import check_symbol, is_symbol, symbols_among


def children_of(items, start, end, trees):
    """Return children of items that keep exactly the letters of the word from start to end, or None."""
    if items == "":
        return () if start == end else None
    for middle in range(start, end + 1):
        child = trees.get((items[0], start, middle))
        # Only where no letters are kept does None stand for a child.
        if child is not None or middle == start:
            rest = children_of(items[1:], middle, end, trees)
            if rest is not None:
                return (child, *rest)
    return None


def more_trees(rows, start, end, trees):
    """Return trees that keep the letters from start to end, for symbols that have none yet."""
    found = {}
    for index, symbol, items in rows:
        if (symbol, start, end) not in trees:
            children = children_of(items, start, end, trees)
            if children is not None:
                found[symbol, start, end] = (index, children)
    return found


def trees_of_word(rows, word):
    """Return a dict from items with the start and end of a part of the word to children that keep it."""
    trees = {(letter, at, at + 1): letter for at, letter in enumerate(word)}
    for length in range(1, len(word) + 1):
        for start in range(len(word) - length + 1):
            found = more_trees(rows, start, start + length, trees)
            # A tree may have one that keeps the same letters below it, so one turn is not enough.
            while found:
                trees.update(found)
                found = more_trees(rows, start, start + length, trees)
    return trees


def pruned_tree(grammar, symbol, word):
    """Return a pruned tree of a symbol and a word, or None if there is none."""
    rows = productive_productions(grammar)
    trees = trees_of_word(rows, word)
    for index, own, items in rows:
        if own == symbol:
            children = children_of(items, 0, len(word), trees)
            if children is not None:
                return (index, children)
    return None


def certificate(grammar, symbol, word):
    """Return a certificate that a word is in the closure of a symbol, or that it is not."""
    check_symbol(grammar, symbol)
    tree = pruned_tree(grammar, symbol, word)
    if tree is None:
        return ("out", closure_table(grammar))
    return ("in", tree, ranks(grammar))


def is_integer(thing):
    """Tell whether the object is an integer."""
    return isinstance(thing, int) and not isinstance(thing, bool)


def items_with_children(grammar, symbol, thing):
    """Return pairs of the items and the children at the top of a tree of a symbol, or None if it is none."""
    if not isinstance(thing, tuple) or len(thing) != 2:
        return None
    index, children = thing
    if not is_integer(index) or not 0 <= index < len(grammar.productions()):
        return None
    own, items = grammar.productions()[index]
    if own != symbol or not isinstance(children, tuple) or len(children) != len(items):
        return None
    return list(zip(items, children))


def leaves_of(grammar, symbol, thing):
    """Return the kept letters and the deleted symbols of a pruned tree, or None if it is none."""
    kept, deleted = [], []
    waiting = [(symbol, thing)]
    while waiting:
        item, child = waiting.pop()
        if not is_symbol(item):
            if child is not None and child != item:
                return None
            kept.append("" if child is None else item)
        elif child is None:
            deleted.append(item)
        else:
            below = items_with_children(grammar, item, child)
            if below is None:
                return None
            # The leftmost one is the next one that is taken from the end.
            waiting.extend(below[::-1])
    return "".join(kept), deleted


def has_lower_production(grammar, symbol, values):
    """Tell whether a symbol has a production whose symbols all have lesser values."""
    for own, items in grammar.productions():
        if own == symbol:
            if all([used in values and values[used] < values[symbol] for used in symbols_among(items)]):
                return True
    return False


def are_ranks(grammar, thing):
    """Tell whether the object is a dict of ranks that justifies all of its keys."""
    if not isinstance(thing, dict):
        return False
    symbols = grammar.symbols()
    if not all([key in symbols and is_integer(thing[key]) for key in thing]):
        return False
    return all([has_lower_production(grammar, key, thing) for key in thing])


def is_justified_tree(grammar, symbol, word, tree, values):
    """Tell whether the objects are a pruned tree of the symbol and the word, and ranks that justify it."""
    # The symbol itself cannot be deleted: its tree is an index with children.
    leaves = None if tree is None else leaves_of(grammar, symbol, tree)
    if leaves is None or not are_ranks(grammar, values):
        return False
    kept, deleted = leaves
    return kept == word and all([item in values for item in deleted])


def is_certificate(grammar, symbol, word, thing):
    """Tell whether the object is a certificate for the symbol and the word."""
    check_symbol(grammar, symbol)
    if not isinstance(thing, tuple):
        return False
    if len(thing) == 3 and thing[0] == "in":
        return is_justified_tree(grammar, symbol, word, thing[1], thing[2])
    if len(thing) == 2 and thing[0] == "out":
        return is_upper_bound(grammar, thing[1]) and not thing[1][symbol].contains(word)
    return False
