"""A workbench with named definitions."""

from downwords.definitions import inputs_of, is_definition, is_name, value_of_definition, with_tuples
from downwords.errors import (
    CyclicDefinition, InvalidAlphabet, InvalidDefinition, NothingToRedo, NothingToUndo, TooLarge, UndefinedName,
)
from downwords.graphs import listed_with_needs, reached_from
from downwords.words import is_alphabet

MOST_DEFINITIONS = 24


class Workbench:
    """Named definitions over an alphabet, with changes that can be undone and redone.

    A change is a tuple of the name, its definition before and its definition after the change;
    None stands for no definition.
    """

    def __init__(self, alphabet):
        if not is_alphabet(alphabet):
            raise InvalidAlphabet()
        self.base = alphabet
        self.defined = {}
        self.done = []
        self.undone = []

    def alphabet(self):
        """Return the alphabet."""
        return self.base

    def define(self, name, definition):
        """Define a name."""
        if not is_name(name) or not is_definition(self.base, definition):
            raise InvalidDefinition()
        steps = self.inputs_by_name()
        steps[name] = inputs_of(definition)
        if name in reached_from(steps, name):
            raise CyclicDefinition(name)
        if name not in self.defined and len(self.defined) >= MOST_DEFINITIONS:
            raise TooLarge(MOST_DEFINITIONS)
        self.make_change(name, with_tuples(definition))

    def remove(self, name):
        """Remove the definition of a name."""
        self.check_defined(name)
        self.make_change(name, None)

    def undo(self, *, count=1):
        """Take back changes, the last one first."""
        if count > len(self.done):
            raise NothingToUndo()
        for turn in range(count):
            name, before, after = self.done.pop()
            self.put(name, before)
            self.undone.append((name, before, after))

    def redo(self, *, count=1):
        """Make changes again that were taken back, the last one first."""
        if count > len(self.undone):
            raise NothingToRedo()
        for turn in range(count):
            name, before, after = self.undone.pop()
            self.put(name, after)
            self.done.append((name, before, after))

    def value(self, name):
        """Return the value of a name."""
        self.check_defined(name)
        order = listed_with_needs(self.inputs_by_name(), name, [])
        for needed in sorted(order):
            self.check_defined(needed)
        values = {}
        for needed in order:
            values[needed] = value_of_definition(self.base, self.defined[needed], values)
        return values[name]

    def names(self, *, missing=False):
        """Return the defined names, or those that are mentioned and not defined, ascending."""
        if not missing:
            return sorted(self.defined)
        mentioned = [name for inputs in self.inputs_by_name().values() for name in inputs]
        return [name for name in sorted(set(mentioned)) if name not in self.defined]

    def definition(self, name):
        """Return the definition of a name, with tuples in place of lists."""
        self.check_defined(name)
        return self.defined[name]

    def dependents(self, name, *, direct=False):
        """Return the defined names that need the name, or only those that mention it, ascending."""
        steps = self.inputs_by_name()
        if direct:
            return [other for other in sorted(steps) if name in steps[other]]
        return [other for other in sorted(steps) if name in reached_from(steps, other)]

    def __eq__(self, other):
        return isinstance(other, Workbench) and self.base == other.base and self.defined == other.defined

    def inputs_by_name(self):
        """Return a dict from each defined name to the names that its definition mentions."""
        return {name: inputs_of(self.defined[name]) for name in self.defined}

    def check_defined(self, name):
        """Raise UndefinedName if the object is not a defined name."""
        if not isinstance(name, str) or name not in self.defined:
            raise UndefinedName(name)

    def make_change(self, name, definition):
        """Give a name a definition, or none, as a change that can be undone."""
        self.done.append((name, self.defined.get(name), definition))
        self.undone = []
        self.put(name, definition)

    def put(self, name, definition):
        """Give a name a definition; None removes it."""
        if definition is None:
            del self.defined[name]
        else:
            self.defined[name] = definition

    def forget_changes(self):
        """Leave nothing to undo or redo."""
        self.done = []
        self.undone = []
