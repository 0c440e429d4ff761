"""The definitions of a workbench: their forms, their inputs and their values."""

from downwords.closures import closure
from downwords.errors import InvalidExpression, InvalidProduction, TooLarge
from downwords.excluded import avoiding
from downwords.expressions import check_expression, closure_of_expression
from downwords.grammars import Grammar
from downwords.languages import Language, check_products, closure_of_words
from downwords.operations import concatenation, intersection, residual, reversal, star, union
from downwords.products import is_product
from downwords.words import is_word

LONGEST_NAME = 8
VALUE_PRODUCTS_LIMIT = 20
VALUE_FACTORS_LIMIT = 30

# How many names each operation mentions.
NUMBERS_OF_INPUTS = {"union": 2, "meet": 2, "concat": 2, "residual": 2, "reverse": 1, "star": 1}


def is_name(thing):
    """Tell whether the object is a name."""
    if not isinstance(thing, str) or not 1 <= len(thing) <= LONGEST_NAME:
        return False
    return all(["a" <= letter <= "z" for letter in thing])


def are_products(alphabet, thing):
    """Tell whether the object is a list or tuple of products over the alphabet."""
    return isinstance(thing, (list, tuple)) and all([is_product(alphabet, product) for product in thing])


def are_words(alphabet, thing):
    """Tell whether the object is a list or tuple of words over the alphabet."""
    return isinstance(thing, (list, tuple)) and all([is_word(alphabet, word) for word in thing])


def is_expression(alphabet, thing):
    """Tell whether the object is an expression that is short enough."""
    try:
        check_expression(alphabet, thing)
    except InvalidExpression:
        return False
    return True


def are_productions_with(alphabet, thing, symbol):
    """Tell whether the object makes a grammar that has the symbol."""
    try:
        grammar = Grammar(alphabet, thing)
    except InvalidProduction:
        return False
    return symbol in grammar.symbols()


def is_definition(alphabet, thing):
    """Tell whether the object is a definition."""
    if not isinstance(thing, tuple) or len(thing) < 2 or not isinstance(thing[0], str):
        return False
    kind, *parts = thing
    if kind in NUMBERS_OF_INPUTS:
        return len(parts) == NUMBERS_OF_INPUTS[kind] and all([is_name(part) for part in parts])
    if kind == "grammar":
        return len(parts) == 2 and are_productions_with(alphabet, parts[0], parts[1])
    if len(parts) != 1:
        return False
    if kind == "products":
        return are_products(alphabet, parts[0])
    if kind == "expression":
        return is_expression(alphabet, parts[0])
    return kind in ("words", "avoid") and are_words(alphabet, parts[0])


def with_tuples(definition):
    """Return a definition with tuples in place of lists."""
    return tuple([tuple(part) if isinstance(part, list) else part for part in definition])


def inputs_of(definition):
    """Return a tuple of the names that a definition mentions."""
    if definition[0] in NUMBERS_OF_INPUTS:
        return definition[1:]
    return ()


def value_of_source(alphabet, definition):
    """Return the value of a definition that mentions no names."""
    kind, parts = definition[0], definition[1]
    if kind == "products":
        return Language(alphabet, parts)
    if kind == "words":
        return closure_of_words(alphabet, parts)
    if kind == "avoid":
        return avoiding(alphabet, parts)
    if kind == "expression":
        return closure_of_expression(alphabet, parts)
    return closure(Grammar(alphabet, parts), definition[2])


def value_of_operation(kind, first, second):
    """Return the value of an operation on the values of its inputs; the second may be the first again."""
    if kind == "union":
        return union(first, second)
    if kind == "meet":
        return intersection(first, second)
    if kind == "concat":
        return concatenation(first, second)
    if kind == "residual":
        return residual(first, second)
    if kind == "reverse":
        return reversal(first)
    return star(first)


def value_of_definition(alphabet, definition, values):
    """Return the value of a definition; the dict has the values of its inputs."""
    inputs = inputs_of(definition)
    if inputs:
        found = value_of_operation(definition[0], values[inputs[0]], values[inputs[-1]])
    else:
        found = value_of_source(alphabet, definition)
    check_products(found, VALUE_PRODUCTS_LIMIT)
    if any([len(product) > VALUE_FACTORS_LIMIT for product in found.products()]):
        raise TooLarge(VALUE_FACTORS_LIMIT)
    return found
