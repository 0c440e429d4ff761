"""Automata of closed languages, and counting their words."""

from downwords.errors import NoSuchWord
from downwords.languages import check_alphabets, check_factors
from downwords.operations import derivative

COUNTING_LIMIT = 24


def automaton(language):
    """Return the smallest automaton: a tuple for each state, with the next state by letter or None."""
    check_factors(language, COUNTING_LIMIT)
    if language.is_empty():
        return []
    # A state is the Language of the words that may follow; its written form tells it from the others.
    states = [language]
    numbers = {str(language): 0}
    rows = []
    while len(rows) < len(states):
        row = []
        for letter in language.alphabet():
            after = derivative(states[len(rows)], letter)
            form = str(after)
            if form not in numbers and not after.is_empty():
                numbers[form] = len(states)
                states.append(after)
            row.append(numbers.get(form))
        rows.append(tuple(row))
    return rows


def counts_by_length(rows, most):
    """Return, for each length up to the most, a list with the number of words that each state reads."""
    counts = [[1 for row in rows]]
    for length in range(most):
        shorter = counts[length]
        counts.append([sum([shorter[state] for state in row if state is not None]) for row in rows])
    return counts


def count_words(language, length):
    """Return how many words of the length a Language has."""
    rows = automaton(language)
    if not rows:
        return 0
    return counts_by_length(rows, length)[length][0]


def count_all(language):
    """Return how many words a Language has, or None if it is not finite."""
    rows = automaton(language)
    factors = [factor for product in language.products() for factor in product]
    if any([kind == "star" for kind, letters in factors]):
        return None
    if not rows:
        return 0
    # Without stars, a word has no more letters than there are factors.
    return sum([counts[0] for counts in counts_by_length(rows, len(factors))])


def word_at(language, number):
    """Return the word with the number in shortlex order."""
    rows = automaton(language)
    # Each word of the Language but the empty one is another one with a letter behind it.
    words = [("", 0)] if rows else []
    at = 0
    while at < len(words) <= number:
        word, state = words[at]
        for letter, after in zip(language.alphabet(), rows[state]):
            if after is not None:
                words.append((word + letter, after))
        at += 1
    if not 0 <= number < len(words):
        raise NoSuchWord(number)
    return words[number][0]


def number_of(language, word):
    """Return the number of a word in shortlex order, or None if it is not in the Language."""
    rows = automaton(language)
    if not language.contains(word):
        return None
    counts = counts_by_length(rows, len(word))
    number = sum([counts[length][0] for length in range(len(word))])
    state = 0
    for at, letter in enumerate(word):
        place = language.alphabet().index(letter)
        shorter = counts[len(word) - at - 1]
        number += sum([shorter[after] for after in rows[state][:place] if after is not None])
        state = rows[state][place]
    return number


def least_difference(one, other):
    """Return the first word in shortlex order that is in one and not in the other, or None."""
    check_alphabets(one, other)
    rows, others = automaton(one), automaton(other)
    # The first word that leads to a pair of states leads to all that any word finds from there.
    start = (0, 0 if others else None)
    words = {start: ""}
    pairs = [start] if rows else []
    at = 0
    while at < len(pairs):
        state, partner = pairs[at]
        if partner is None:
            return words[pairs[at]]
        for letter, after, reached in zip(one.alphabet(), rows[state], others[partner]):
            if after is not None and (after, reached) not in words:
                words[after, reached] = words[pairs[at]] + letter
                pairs.append((after, reached))
        at += 1
    return None
