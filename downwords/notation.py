"""Grammars and workbenches as texts."""

from downwords.errors import CyclicDefinition, InvalidDefinition, InvalidProduction, InvalidText, TooLarge
from downwords.grammars import Grammar
from downwords.products import format_product, parse_product
from downwords.words import is_alphabet
from downwords.workbench import Workbench

NOTHING = "-"


def format_letters(letters):
    """Return a word or items as a text that is not empty."""
    return letters if letters != "" else NOTHING


def parse_letters(text):
    """Return the word or the items that are written as a text."""
    return "" if text == NOTHING else text


def format_production(production, arrow):
    """Return a production as a text with an arrow in it."""
    symbol, items = production
    return symbol + arrow + format_letters(items)


def parse_production(text, arrow):
    """Return what is written like a production; it is not checked."""
    symbol, sign, items = text.partition(arrow)
    return (symbol, parse_letters(items))


def format_grammar(grammar):
    """Return the written form of a grammar."""
    lines = [format_production(production, " -> ") for production in grammar.productions()]
    return "\n".join([grammar.alphabet()] + lines)


def lines_of(thing):
    """Return the lines of a text whose first one is an alphabet."""
    if not isinstance(thing, str):
        raise InvalidText(0)
    lines = thing.split("\n")
    if not is_alphabet(lines[0]):
        raise InvalidText(0)
    return lines


def parse_grammar(text):
    """Return the grammar with the written form."""
    alphabet, *lines = lines_of(text)
    productions = []
    for line in lines:
        production = parse_production(line, " -> ")
        # Any other way to write a production counts as an object that is none.
        productions.append(production if format_production(production, " -> ") == line else None)
    try:
        return Grammar(alphabet, productions)
    except InvalidProduction as error:
        raise InvalidText(error.index + 1)


def format_parts(definition):
    """Return a list of the written parts of a definition behind its kind."""
    kind, *rest = definition
    if kind == "products":
        return [format_product(product) for product in rest[0]]
    if kind in ("words", "avoid"):
        return [format_letters(word) for word in rest[0]]
    if kind == "grammar":
        return [rest[1]] + [format_production(production, ">") for production in rest[0]]
    return rest


def parse_parts(kind, parts):
    """Return what is written like a definition; it is not checked."""
    if kind == "products":
        return (kind, [parse_product(part) for part in parts])
    if kind in ("words", "avoid"):
        return (kind, [parse_letters(part) for part in parts])
    if kind == "grammar":
        symbol, *productions = parts if parts else [""]
        return (kind, [parse_production(part, ">") for part in productions], symbol)
    return (kind, *parts)


def format_definition(name, definition):
    """Return the line of a definition."""
    return " ".join([name, "=", definition[0]] + format_parts(definition))


def parse_definition(line):
    """Return a name and what is written like its definition; neither is checked."""
    name, sign, rest = line.partition(" = ")
    kind, *parts = rest.split(" ")
    return name, parse_parts(kind, parts)


def format_workbench(workbench):
    """Return the written form of a workbench."""
    lines = [format_definition(name, workbench.definition(name)) for name in workbench.names()]
    return "\n".join([workbench.alphabet()] + lines)


def add_line(workbench, line):
    """Define what a line of the written form of a workbench says; the name must be the greatest so far."""
    name, definition = parse_definition(line)
    if workbench.names() and name <= workbench.names()[-1]:
        raise InvalidText(0)
    workbench.define(name, definition)
    # A definition that is written in another way is refused, though it is a definition.
    if format_definition(name, definition) != line:
        raise InvalidText(0)


def parse_workbench(text):
    """Return a workbench with the written form, in which nothing can be undone or redone."""
    alphabet, *lines = lines_of(text)
    workbench = Workbench(alphabet)
    for number, line in enumerate(lines, start=1):
        try:
            add_line(workbench, line)
        except (InvalidText, InvalidDefinition, CyclicDefinition, TooLarge):
            raise InvalidText(number)
    workbench.forget_changes()
    return workbench
