"""Alphabets, words, subwords and common superwords."""

from downwords.errors import TooLarge

MOST_LETTERS = 3
SUPERWORD_LIMIT = 12


def is_ascending(letters):
    """Tell whether each letter of a text comes before the next one."""
    return all([one < other for one, other in zip(letters, letters[1:])])


def is_alphabet(thing):
    """Tell whether the object is an alphabet."""
    if not isinstance(thing, str) or not 1 <= len(thing) <= MOST_LETTERS:
        return False
    return all(["a" <= letter <= "z" for letter in thing]) and is_ascending(thing)


def is_word(alphabet, thing):
    """Tell whether the object is a word over the alphabet."""
    return isinstance(thing, str) and all([letter in alphabet for letter in thing])


def first_positions(word, other):
    """Return the first positions of a word in another one, or None if it is not a subword."""
    positions = []
    start = 0
    for letter in word:
        # The earliest place for each letter leaves the most room for the rest.
        place = other.find(letter, start)
        if place < 0:
            return None
        positions.append(place)
        start = place + 1
    return tuple(positions)


def is_subword(word, other):
    """Tell whether a word is a subword of another one."""
    return first_positions(word, other) is not None


def has_proper_subword(word, words):
    """Tell whether one of the words is a proper subword of the given one."""
    for shorter in words:
        if len(shorter) < len(word) and is_subword(shorter, word):
            return True
    return False


def in_shortlex_order(words):
    """Return the words in shortlex order, without duplicates."""
    return sorted(sorted(set(words)), key=len)


def minimal_words(words):
    """Return the minimal words of a list, in shortlex order."""
    minimal = []
    for word in in_shortlex_order(words):
        # A proper subword in the list leads down to a minimal one, which stands earlier.
        if not has_proper_subword(word, minimal):
            minimal.append(word)
    return minimal


def merged_words(word, other):
    """Return all merges of two words in which equal next letters are merged into one.

    In a minimal common superword, the first positions of the two words leave
    out no letter. So it is one of these merges.
    """
    if word == "" or other == "":
        return [word + other]
    if word[0] == other[0]:
        return [word[0] + rest for rest in merged_words(word[1:], other[1:])]
    taking_word = [word[0] + rest for rest in merged_words(word[1:], other)]
    taking_other = [other[0] + rest for rest in merged_words(word, other[1:])]
    return taking_word + taking_other


def common_superwords(word, other):
    """Return the minimal common superwords of two words, in shortlex order."""
    if len(word) + len(other) > SUPERWORD_LIMIT:
        raise TooLarge(SUPERWORD_LIMIT)
    return minimal_words(merged_words(word, other))
