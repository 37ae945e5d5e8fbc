"""Patterns: names and the lines that their records must keep to."""

from oneshard.errors import BadCount, BadLine, BadName, DuplicateName, OutOfRange, UnknownName
from oneshard.naming import valid_name
from oneshard.reading import read_row


def _check_names(names, most):
    """Raise the error of the first fault of the names, if there is one."""
    if not 1 <= len(names) <= most:
        raise BadCount(len(names))
    for place, name in enumerate(names):
        if not valid_name(name):
            raise BadName(name)
        if name in names[:place]:
            raise DuplicateName(name)


def _check_lines(lines, names, most):
    """Raise the error of the first fault of the lines, if there is one."""
    if len(lines) > most:
        raise BadCount(len(lines))
    for line in lines:
        for name in line.names:
            if name not in names:
                raise UnknownName(name)


class Pattern:
    """A few names, and lines about their records."""

    MOST_NAMES = 6
    MOST_LINES = 5

    def __init__(self, names, lines=()):
        _check_names(names, self.MOST_NAMES)
        _check_lines(lines, names, self.MOST_LINES)
        self._names = tuple(names)
        self._lines = tuple(lines)

    @classmethod
    def read(cls, text):
        """Return the pattern that the rows of the text write."""
        first, *rows = text.split("\n")
        names = first.split(" ")
        try:
            cls(names)
        except (BadCount, BadName, DuplicateName):
            raise BadLine(1, first) from None
        if len(rows) > cls.MOST_LINES:
            raise BadCount(len(rows))
        lines = []
        for number, row in enumerate(rows, 2):
            line = read_row(row, names)
            if line is None:
                raise BadLine(number, row)
            lines.append(line)
        return cls(names, lines)

    @property
    def names(self):
        """Return the names in their order."""
        return self._names

    @property
    def lines(self):
        """Return the lines in their order."""
        return self._lines

    def without(self, numbers):
        """Return the pattern without the lines that have these numbers."""
        for number in numbers:
            if not 0 <= number < len(self._lines):
                raise OutOfRange(number)
        return Pattern(self._names, [line for number, line in enumerate(self._lines) if number not in numbers])

    def holds(self, values):
        """Return True if the dict of integers is a solution, otherwise False."""
        if len(values) != len(self._names):
            return False
        if not all([name in values and values[name] >= 1 for name in self._names]):
            return False
        return all([line.holds(values) for line in self._lines])

    def __len__(self):
        return len(self._lines)

    def __contains__(self, name):
        return name in self._names

    def __eq__(self, other):
        return (isinstance(other, Pattern) and self._names == other._names
                and self._lines == other._lines)

    def __and__(self, other):
        return Pattern(self._names + other._names, self._lines + other._lines)

    def __str__(self):
        rows = [str(line) for line in self._lines]
        return "\n".join([" ".join(self._names), *rows])
