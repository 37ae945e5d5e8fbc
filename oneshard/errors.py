"""The errors of the program.

No error builds a message of its own: an argument may be of any kind, also an
integer that is too long for Python to write out.
"""


class OneshardError(ValueError):
    """The base class of all errors of the program."""


class BadName(OneshardError):
    """A string is not a name."""

    def __init__(self, name):
        self.name = name


class DuplicateName(OneshardError):
    """A name occurs twice."""

    def __init__(self, name):
        self.name = name


class UnknownName(OneshardError):
    """A name is not among the known ones."""

    def __init__(self, name):
        self.name = name


class BadCount(OneshardError):
    """There are too many or too few of something."""

    def __init__(self, count):
        self.count = count


class OutOfRange(OneshardError):
    """A number is not in its range."""

    def __init__(self, value):
        self.value = value


class BadLine(OneshardError):
    """A row of a text is wrong."""

    def __init__(self, number, text):
        self.number = number
        self.text = text


class BadLength(OneshardError):
    """A column or a row has the wrong length."""

    def __init__(self, length):
        self.length = length


class ZeroSum(OneshardError):
    """A partial sum of the numbers is 0."""

    def __init__(self, numbers):
        self.numbers = numbers


class NotPrime(OneshardError):
    """A number is not a prime."""

    def __init__(self, value):
        self.value = value


class NotSure(OneshardError):
    """A pattern is not sure."""

    def __init__(self, kind):
        self.kind = kind


class IsSure(OneshardError):
    """A pattern is sure."""

    def __init__(self, kind):
        self.kind = kind


class NothingToUndo(OneshardError):
    """A book has no change that can be taken back."""
