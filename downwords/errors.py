"""The errors that the program raises."""


class DownwordsError(ValueError):
    """The base class of all errors of the program."""


class InvalidAlphabet(DownwordsError):
    """The object is not an alphabet."""


class InvalidProduct(DownwordsError):
    """The object at the index is not a product; None stands for the whole list."""

    def __init__(self, index):
        super().__init__(f"no product at index {index}")
        self.index = index


class AlphabetMismatch(DownwordsError):
    """The Languages have different alphabets."""


class TooLarge(DownwordsError):
    """The arguments are larger than the limit."""

    def __init__(self, limit):
        super().__init__(f"larger than {limit}")
        self.limit = limit


class TooMany(DownwordsError):
    """A Language has more products than the limit."""

    def __init__(self, limit):
        super().__init__(f"more products than {limit}")
        self.limit = limit


class NoSuchWord(DownwordsError):
    """The Language has no word with the number."""

    def __init__(self, number):
        super().__init__(f"no word with number {number}")
        self.number = number


class InvalidExpression(DownwordsError):
    """No expression begins with the characters up to and including the index."""

    def __init__(self, index):
        super().__init__(f"no expression up to index {index}")
        self.index = index


class InvalidProduction(DownwordsError):
    """The object at the index is not a production; None stands for the whole list."""

    def __init__(self, index):
        super().__init__(f"no production at index {index}")
        self.index = index


# A symbol and a name may be any object, so the messages below do not show them.


class UnknownSymbol(DownwordsError):
    """The object is not a symbol of the grammar."""

    def __init__(self, symbol):
        super().__init__("not a symbol of the grammar")
        self.symbol = symbol


class InvalidText(DownwordsError):
    """The text is not a written form; the line, from 0, is the first wrong one."""

    def __init__(self, line):
        super().__init__(f"no written form, line {line}")
        self.line = line


class InvalidDefinition(DownwordsError):
    """The name is not a name, or the definition has none of the forms."""


class UndefinedName(DownwordsError):
    """The name has no definition."""

    def __init__(self, name):
        super().__init__("the name is not defined")
        self.name = name


class CyclicDefinition(DownwordsError):
    """The definition would lead back to its own name."""

    def __init__(self, name):
        super().__init__("the definition leads back to its name")
        self.name = name


class NothingToUndo(DownwordsError):
    """There are fewer changes than should be undone."""


class NothingToRedo(DownwordsError):
    """There are fewer changes than should be made again."""
