"""Expressions that are drawn, and slow ways to their closures.

A choice is a list of alternatives, an alternative a list of items, an item a pair of an operand and its
postfix operators. An operand is a letter, "()", or a choice, which stands in parentheses.
"""

import re

from downwords.languages import Language
from support import joined


def text_of(choice):
    """The expression as a text."""
    return "|".join("".join(operand_text(operand) + signs for operand, signs in row) for row in choice)


def operand_text(operand):
    return operand if isinstance(operand, str) else "(" + text_of(operand) + ")"


def some_choice(source, alphabet, depth, signs="*+?"):
    """A drawn choice with at most so many levels of parentheses."""
    many = source.choice([1, 1, 1, 2, 2, 3])
    return [some_alternative(source, alphabet, depth, signs) for _ in range(many)]


def some_alternative(source, alphabet, depth, signs):
    row = []
    for _ in range(source.choice([1, 1, 2, 2, 3, 4])):
        operand = source.choice(list(alphabet) * 2 + ["()"])
        if depth and source.random() < 0.5:
            operand = some_choice(source, alphabet, depth - 1, signs)
        many = source.choice([0, 0, 0, 0, 1, 1, 2]) if signs else 0
        row.append((operand, "".join(source.choice(signs) for _ in range(many))))
    return row


def some_choices(source, alphabet, depth, many, signs="*+?"):
    """So many drawn choices whose texts are not too long."""
    found = []
    while len(found) < many:
        choice = some_choice(source, alphabet, depth, signs)
        if len(text_of(choice)) <= 60:
            found.append(choice)
    return found


def backwards(choice):
    """The choice of the words read backwards."""
    return [
        [(operand if isinstance(operand, str) else backwards(operand), signs) for operand, signs in row[::-1]]
        for row in choice
    ]


def repeated(words, most):
    """All words of a set one behind the other, with at most so many letters."""
    found = {""}
    while True:
        more = found | joined(found, words, most)
        if more == found:
            return found
        found = more


def closure_words(choice, most):
    """The words with at most so many letters that remain when letters are deleted."""
    found = set()
    for row in choice:
        words = {""}
        for operand, signs in row:
            words = joined(words, item_words(operand, signs, most), most)
        found |= words
    return found


def item_words(operand, signs, most):
    words = {"", operand.strip("()")} if isinstance(operand, str) else closure_words(operand, most)
    for sign in signs:
        if sign == "?":
            words = words | {""}
        else:
            words = repeated(words, most) if sign == "*" else joined(words, repeated(words, most), most)
    return words


def exact_words(choice):
    """All words of an expression in which nothing is repeated, no letters deleted."""
    found = set()
    for row in choice:
        words = {""}
        for operand, signs in row:
            own = {operand.strip("()")} if isinstance(operand, str) else exact_words(operand)
            words = joined(words, own | {""} if "?" in signs else own, 1000)
        found |= words
    return found


def numbers_of_products(choice, alphabet):
    """The Language of a choice, and the numbers of products of all parts that are limited."""
    rows, numbers = [], []
    for row in choice:
        products = [()]
        for operand, signs in row:
            if operand == "()":
                own = [()]
            elif isinstance(operand, str):
                own = [(("opt", operand),)]
            else:
                inner, more = numbers_of_products(operand, alphabet)
                own = inner.products()
                numbers += more
            if "*" in signs or "+" in signs:
                letters = "".join(sorted({letter for product in own for _, part in product for letter in part}))
                own = [(("star", letters),)] if letters else [()]
            products = Language(alphabet, [one + other for one in products for other in own]).products()
            numbers.append(len(products))
        rows += products
    language = Language(alphabet, rows)
    return language, numbers + [len(language.products())]


def is_expression(alphabet, text):
    """Make a text shorter, part by part, until one item is left, or nothing more can be done."""
    # A tab stands for an item, since no text contains one.
    form = re.sub("[" + alphabet + "]", "\t", text)
    before = None
    while form != before:
        before = form
        form = re.sub(r"\(\t?\)|\t[*+?]|\t\t|\t\|\t", "\t", form)
    return form == "\t"


def is_beginning(alphabet, text):
    """Whether some expression begins with the text: all ways are tried in which one may go on."""
    for item in ["", alphabet[0]]:
        for depth in range(text.count("(") + 1):
            if is_expression(alphabet, text + item + ")" * depth):
                return True
    return False


def wrong_index(alphabet, text):
    """The index that InvalidExpression must have, or None."""
    if len(text) > 60:
        return 60
    for index in range(len(text)):
        if not is_beginning(alphabet, text[:index + 1]):
            return index
    return None if is_expression(alphabet, text) else len(text)
