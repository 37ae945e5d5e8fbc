"""Books: lines under keys, with changes that can be taken back."""

from oneshard.errors import BadCount, BadName, NothingToUndo, UnknownName
from oneshard.naming import valid_name
from oneshard.patterns import Pattern
from oneshard.verdicts import decide


class Book:
    """Lines over a few names, each under a key."""

    def __init__(self, names):
        self._names = Pattern(names).names
        self._lines = {}
        # What the lines were before each change that has not been taken back.
        self._past = []

    @property
    def order(self):
        """Return the keys in the order of their lines."""
        return tuple(self._lines)

    def pattern(self):
        """Return the pattern with the lines of the book."""
        return Pattern(self._names, list(self._lines.values()))

    def verdict(self):
        """Return the verdict of the pattern with the lines of the book."""
        return decide(self.pattern())

    def drop(self, key):
        """Remove the line under a key."""
        if key not in self._lines:
            raise UnknownName(key)
        self._past.append(dict(self._lines))
        del self._lines[key]

    def undo(self):
        """Take back the last change that has not been taken back."""
        if len(self._past) == 0:
            raise NothingToUndo()
        self._lines = self._past.pop()

    def tried(self, changes):
        """Return the verdict that the book would have after the changes."""
        trial = Book(self._names)
        trial._lines = dict(self._lines)
        for key, line in changes:
            if line is None:
                trial.drop(key)
            else:
                trial[key] = line
        return trial.verdict()

    def __getitem__(self, key):
        if key not in self._lines:
            raise UnknownName(key)
        return self._lines[key]

    def __setitem__(self, key, line):
        if not valid_name(key):
            raise BadName(key)
        for name in line.names:
            if name not in self._names:
                raise UnknownName(name)
        if key not in self._lines and len(self._lines) == Pattern.MOST_LINES:
            raise BadCount(len(self._lines) + 1)
        self._past.append(dict(self._lines))
        self._lines[key] = line

    def __contains__(self, key):
        return key in self._lines

    # Without this, Python would ask the book for the keys 0, 1 and so on.
    def __iter__(self):
        raise TypeError("a book cannot be iterated over")

    def __len__(self):
        return len(self._lines)
