"""Context-free grammars."""

from downwords.errors import InvalidAlphabet, InvalidProduction, UnknownSymbol
from downwords.words import is_alphabet

MOST_ITEMS = 3
MOST_PRODUCTIONS = 16
MOST_SYMBOLS = 6


def is_symbol(item):
    """Tell whether a character is an uppercase letter."""
    return "A" <= item <= "Z"


def symbols_among(items):
    """Return the symbols among items, ascending."""
    return sorted({item for item in items if is_symbol(item)})


def is_production(alphabet, thing):
    """Tell whether the object is a production over the alphabet."""
    if not isinstance(thing, tuple) or len(thing) != 2:
        return False
    symbol, items = thing
    if not isinstance(symbol, str) or len(symbol) != 1 or not is_symbol(symbol):
        return False
    if not isinstance(items, str) or len(items) > MOST_ITEMS:
        return False
    return all([is_symbol(item) or item in alphabet for item in items])


class Grammar:
    """A context-free grammar over an alphabet."""

    def __init__(self, alphabet, productions):
        if not is_alphabet(alphabet):
            raise InvalidAlphabet()
        if not isinstance(productions, (list, tuple)):
            raise InvalidProduction(None)
        characters = ""
        for index, production in enumerate(productions):
            if index >= MOST_PRODUCTIONS or not is_production(alphabet, production):
                raise InvalidProduction(index)
            characters += "".join(production)
            if len(symbols_among(characters)) > MOST_SYMBOLS:
                raise InvalidProduction(index)
        self.base = alphabet
        self.rules = list(productions)
        self.occurring = symbols_among(characters)

    def alphabet(self):
        """Return the alphabet."""
        return self.base

    def productions(self):
        """Return the productions, in their order."""
        return list(self.rules)

    def symbols(self):
        """Return the symbols, ascending."""
        return list(self.occurring)

    def __eq__(self, other):
        return isinstance(other, Grammar) and self.base == other.base and self.rules == other.rules


def check_symbol(grammar, thing):
    """Raise UnknownSymbol if the object is not a symbol of the grammar."""
    if thing not in grammar.symbols():
        raise UnknownSymbol(thing)
