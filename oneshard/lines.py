"""Lines of a pattern: equations, congruences and inequalities."""

from oneshard.errors import BadName, DuplicateName, OutOfRange, UnknownName
from oneshard.naming import valid_name

MOST_COEFFICIENT = 20
MOST_CONSTANT = 1000
LEAST_MODULUS = 2
MOST_MODULUS = 40


def _check_form(form):
    """Raise OutOfRange for the first number of the form that is too large for a line."""
    for coefficient in form.coefficients.values():
        if abs(coefficient) > MOST_COEFFICIENT:
            raise OutOfRange(coefficient)
    if abs(form.constant) > MOST_CONSTANT:
        raise OutOfRange(form.constant)


def _equation_text(form):
    """Return the text of the line that the form is 0."""
    return f"{form - form.constant} = {-form.constant}"


class Equation:
    """The line that a form is 0."""

    KIND = "equation"

    def __init__(self, form):
        _check_form(form)
        self._form = form

    @property
    def form(self):
        """Return the form."""
        return self._form

    @property
    def names(self):
        """Return the names of the form in ascending order."""
        return tuple(self._form.coefficients)

    def holds(self, values):
        """Return True if the form is 0 when each name has its integer in the dict."""
        return self._form(values) == 0

    def __eq__(self, other):
        return isinstance(other, Equation) and self._form == other._form

    def __str__(self):
        return f"{_equation_text(self._form)}"


class Congruence:
    """The line that a modulus divides a form."""

    KIND = "congruence"

    def __init__(self, form, modulus):
        _check_form(form)
        if not LEAST_MODULUS <= modulus <= MOST_MODULUS:
            raise OutOfRange(modulus)
        self._form = form
        self._modulus = modulus

    @property
    def form(self):
        """Return the form."""
        return self._form

    @property
    def modulus(self):
        """Return the modulus."""
        return self._modulus

    @property
    def names(self):
        """Return the names of the form in ascending order."""
        return tuple(self._form.coefficients)

    def holds(self, values):
        """Return True if the modulus divides the form when each name has its integer in the dict."""
        return self._form(values) % self._modulus == 0

    def __eq__(self, other):
        return (isinstance(other, Congruence) and self._form == other._form
                and self._modulus == other._modulus)

    def __str__(self):
        return f"{_equation_text(self._form)} (mod {self._modulus})"


class Unlike:
    """The line that the records of two names differ."""

    KIND = "inequality"

    def __init__(self, first, second):
        for name in (first, second):
            if not valid_name(name):
                raise BadName(name)
        if first == second:
            raise DuplicateName(first)
        self._first = first
        self._second = second

    @property
    def first(self):
        """Return the first name."""
        return self._first

    @property
    def second(self):
        """Return the second name."""
        return self._second

    @property
    def names(self):
        """Return both names in their order."""
        return (self._first, self._second)

    def holds(self, values):
        """Return True if the integers of the two names in the dict differ."""
        for name in self.names:
            if name not in values:
                raise UnknownName(name)
        return values[self._first] != values[self._second]

    def __eq__(self, other):
        return (isinstance(other, Unlike) and self._first == other._first
                and self._second == other._second)

    def __str__(self):
        return f"{self._first} != {self._second}"
