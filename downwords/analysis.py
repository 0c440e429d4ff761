"""Which symbols of a grammar derive words, and how they use each other."""

from downwords.grammars import symbols_among
from downwords.graphs import reached_from


def symbols_of_next_rank(grammar, found):
    """Return the symbols that are not found and have a production with no symbols but found ones."""
    following = []
    for symbol, items in grammar.productions():
        if symbol not in found and all([used in found for used in symbols_among(items)]):
            following.append(symbol)
    return following


def ranks(grammar):
    """Return a dict from each productive symbol, ascending, to its rank."""
    found = {}
    rank = 1
    following = symbols_of_next_rank(grammar, found)
    while following:
        for symbol in following:
            found[symbol] = rank
        rank += 1
        following = symbols_of_next_rank(grammar, found)
    return {symbol: found[symbol] for symbol in sorted(found)}


def productive_productions(grammar):
    """Return the productive productions, each behind its index."""
    found = ranks(grammar)
    productive = []
    for index, (symbol, items) in enumerate(grammar.productions()):
        if all([used in found for used in symbols_among(items)]):
            productive.append((index, symbol, items))
    return productive


def used_symbols(grammar):
    """Return a dict from each productive symbol, ascending, to the symbols that it uses."""
    used = {symbol: [] for symbol in ranks(grammar)}
    for index, symbol, items in productive_productions(grammar):
        used[symbol] = used[symbol] + symbols_among(items)
    return used


def component_of(symbol, reached):
    """Return the component of a symbol; the dict says which symbols are reached from each one."""
    together = [other for other in reached[symbol] if symbol in reached[other]]
    return tuple(sorted(set([symbol, *together])))


def first_component(waiting, reached):
    """Return the first of the components that use no other one of these."""
    for component in waiting:
        later = [other[0] for other in waiting if other != component]
        if not any([symbol in reached[component[0]] for symbol in later]):
            return component
    # Some component uses no other one, since two that use each other are one.
    return None


def components(grammar):
    """Return the components, each behind those that it uses."""
    used = used_symbols(grammar)
    reached = {symbol: reached_from(used, symbol) for symbol in used}
    waiting = sorted({component_of(symbol, reached) for symbol in reached})
    listed = []
    while waiting:
        component = first_component(waiting, reached)
        listed.append(component)
        waiting = [other for other in waiting if other != component]
    return listed


def items_of_component(grammar, component):
    """Return the items of all productive productions of the symbols of a component."""
    return [items for index, symbol, items in productive_productions(grammar) if symbol in component]


def inner_items(items, component):
    """Return those of the items that are in the component."""
    return [item for item in items if item in component]


def component_kind(grammar, component):
    """Return "single", "linear" or "branching" for a component."""
    many = max([len(inner_items(items, component)) for items in items_of_component(grammar, component)])
    if many == 0:
        return "single"
    return "linear" if many == 1 else "branching"


def component_kinds(grammar):
    """Return "single", "linear" or "branching" for each component."""
    return [component_kind(grammar, component) for component in components(grammar)]
