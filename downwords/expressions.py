"""Closures of expressions."""

from downwords.errors import InvalidExpression
from downwords.languages import check_products, closure_of_words
from downwords.operations import concatenation, star, union_of_all

MOST_CHARACTERS = 60
CLOSURE_LIMIT = 50
POSTFIX_OPERATORS = "*+?"

# Where a reader stands: where an alternative begins, right behind a parenthesis that opens, or behind an item.
# Only right behind the parenthesis may another one close it without an item between them.
AT_START = 0
IN_PARENTHESES = 1
BEHIND_ITEM = 2


def wrong_index(alphabet, text):
    """Return the least index such that no expression begins with the text up to it, or None.

    None stands for an expression. Any other beginning of one goes on with a letter and all
    parentheses that are missing, so it is wrong only at its end.
    """
    depth = 0
    place = AT_START
    for index, sign in enumerate(text):
        if sign in alphabet:
            place = BEHIND_ITEM
        elif sign == "(":
            depth += 1
            place = IN_PARENTHESES
        elif sign == ")" and depth > 0 and place != AT_START:
            depth -= 1
            place = BEHIND_ITEM
        elif sign == "|" and place == BEHIND_ITEM:
            place = AT_START
        elif sign not in POSTFIX_OPERATORS or place != BEHIND_ITEM:
            return index
    if depth > 0 or place != BEHIND_ITEM:
        return len(text)
    return None


def check_expression(alphabet, thing):
    """Raise InvalidExpression if the object is not an expression that is short enough."""
    if not isinstance(thing, str):
        raise InvalidExpression(0)
    if len(thing) > MOST_CHARACTERS:
        raise InvalidExpression(MOST_CHARACTERS)
    index = wrong_index(alphabet, thing)
    if index is not None:
        raise InvalidExpression(index)


def read_operand(alphabet, text, start):
    """Return the closure of an item without its postfix operators, and the index behind it."""
    if text[start] != "(":
        return closure_of_words(alphabet, [text[start]]), start + 1
    if text[start + 1] == ")":
        return closure_of_words(alphabet, [""]), start + 2
    found, end = read_choice(alphabet, text, start + 1)
    return found, end + 1


def read_item(alphabet, text, start):
    """Return the closure of the item at an index of an expression, and the index behind it."""
    found, end = read_operand(alphabet, text, start)
    while end < len(text) and text[end] in POSTFIX_OPERATORS:
        # A closure has the empty word anyway. So "?" changes nothing, and "+" does what "*" does.
        if text[end] != "?":
            found = star(found)
        end += 1
    return found, end


def read_alternative(alphabet, text, start):
    """Return the closure of the alternative at an index of an expression, and the index behind it."""
    found, end = read_item(alphabet, text, start)
    while end < len(text) and text[end] not in "|)":
        item, end = read_item(alphabet, text, end)
        found = concatenation(found, item)
        check_products(found, CLOSURE_LIMIT)
    return found, end


def read_choice(alphabet, text, start):
    """Return the closure of the choice at an index of an expression, and the index behind it."""
    found, end = read_alternative(alphabet, text, start)
    alternatives = [found]
    while end < len(text) and text[end] == "|":
        found, end = read_alternative(alphabet, text, end + 1)
        alternatives.append(found)
    choice = union_of_all(alphabet, alternatives)
    check_products(choice, CLOSURE_LIMIT)
    return choice, end


def closure_of_expression(alphabet, text):
    """Return the Language of all subwords of the words of an expression."""
    check_expression(alphabet, text)
    found, end = read_choice(alphabet, text, 0)
    return found
