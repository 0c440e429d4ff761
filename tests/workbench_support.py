"""Definitions that are drawn, and slow ways to what is said of them."""

import re

from downwords.errors import DownwordsError
from downwords.workbench import Workbench
from expression_support import some_choices, text_of, wrong_index
from grammar_support import some_grammar
from support import all_factors

PAIRS = ["union", "meet", "concat", "residual"]
SINGLES = ["reverse", "star"]
SOURCES = ["products", "words", "avoid", "expression", "grammar"]


def some_word(source, alphabet, most):
    return "".join(source.choice(alphabet) for _ in range(source.randrange(most + 1)))


def some_list(source, thing):
    """The list, or a tuple of the same entries."""
    return list(thing) if source.random() < 0.5 else tuple(thing)


def some_source(source, alphabet, kind):
    """A drawn definition that mentions no names."""
    many = source.choice([0, 1, 1, 2, 2, 3])
    if kind == "products":
        factors = all_factors(alphabet)
        products = [tuple(source.choice(factors) for _ in range(source.randrange(4))) for _ in range(many)]
        return (kind, some_list(source, products))
    if kind == "words":
        return (kind, some_list(source, [some_word(source, alphabet, 4) for _ in range(many)]))
    if kind == "avoid":
        return (kind, some_list(source, [some_word(source, alphabet, 3) for _ in range(many)]))
    if kind == "expression":
        return (kind, text_of(some_choices(source, alphabet, 1, 1)[0]))
    grammar = some_grammar(source, alphabet, most=6)
    while not grammar.symbols():
        grammar = some_grammar(source, alphabet, most=6)
    return (kind, some_list(source, grammar.productions()), source.choice(grammar.symbols()))


def some_definition(source, alphabet, names):
    """A drawn definition, which may mention some of the names."""
    kind = source.choice(PAIRS * 2 + SINGLES + SOURCES * 2)
    if kind in PAIRS:
        return (kind, source.choice(names), source.choice(names))
    if kind in SINGLES:
        return (kind, source.choice(names))
    return some_source(source, alphabet, kind)


def is_name(thing):
    return isinstance(thing, str) and re.fullmatch("[a-z]{1,8}", thing) is not None


def is_factor(alphabet, thing):
    if type(thing) is not tuple or len(thing) != 2 or not all(isinstance(part, str) for part in thing):
        return False
    return thing in all_factors(alphabet)


def make_a_grammar(alphabet, productions):
    if type(productions) not in (list, tuple) or len(productions) > 16:
        return False
    for row in productions:
        if type(row) is not tuple or len(row) != 2 or not all(isinstance(part, str) for part in row):
            return False
        if not re.fullmatch("[A-Z]", row[0]) or not re.fullmatch(f"[{alphabet}A-Z]{{0,3}}", row[1]):
            return False
    return len(symbols_of(productions)) <= 6


def symbols_of(productions):
    return {sign for symbol, items in productions for sign in symbol + items if sign.isupper()}


def slow_is_definition(alphabet, thing):
    """Whether the object has one of the forms of point [27]."""
    if type(thing) is not tuple or not thing or not isinstance(thing[0], str):
        return False
    kind, *parts = thing
    if kind in PAIRS + SINGLES:
        return len(parts) == (2 if kind in PAIRS else 1) and all(map(is_name, parts))
    if kind == "grammar" and len(parts) == 2:
        return make_a_grammar(alphabet, parts[0]) and isinstance(parts[1], str) and parts[1] in symbols_of(parts[0])
    if len(parts) != 1 or kind not in SOURCES:
        return False
    if kind == "expression":
        return isinstance(parts[0], str) and wrong_index(alphabet, parts[0]) is None
    if type(parts[0]) not in (list, tuple):
        return False
    if kind == "products":
        return all(type(row) is tuple and all(is_factor(alphabet, factor) for factor in row) for row in parts[0])
    return all(isinstance(word, str) and re.fullmatch(f"[{alphabet}]*", word) is not None for word in parts[0])


def mentioned(definition):
    """The names that a definition mentions."""
    return definition[1:] if definition[0] in PAIRS + SINGLES else ()


def needed(definitions, name):
    """All names that a name needs, directly or through other definitions."""
    found, before = set(mentioned(definitions.get(name, ("",)))), None
    while found != before:
        before = set(found)
        for other in before:
            found |= set(mentioned(definitions.get(other, ("",))))
    return found


def with_tuples(definition):
    return tuple(tuple(part) if isinstance(part, list) else part for part in definition)


def fresh_workbench(bench):
    """A new workbench with the same definitions."""
    other = Workbench(bench.alphabet())
    for name in bench.names():
        other.define(name, bench.definition(name))
    return other


def outcome(function, *arguments, **named):
    """What a call returns, as a text if it is a Language, or its error with the fields."""
    try:
        found = function(*arguments, **named)
    except DownwordsError as error:
        return (type(error).__name__, vars(error))
    return found if isinstance(found, (list, tuple)) or found is None else str(found)
