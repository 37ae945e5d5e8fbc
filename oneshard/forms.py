"""Forms: sums of names with integer coefficients and an integer constant."""

from oneshard.errors import BadName, UnknownName
from oneshard.naming import valid_name

PIECE_DIGITS = 64
PIECE = 10 ** 64


def _decimal(number):
    """Return the decimal text of an integer from 0 on."""
    # The text is built in pieces because str refuses integers of more than 4300 digits.
    pieces = []
    while number >= PIECE:
        number, piece = divmod(number, PIECE)
        pieces.append(str(piece).zfill(PIECE_DIGITS))
    pieces.append(str(number))
    return "".join(pieces[::-1])


def _signed(number, text):
    """Return the text behind the sign of the number, as it stands within a sum."""
    return f" - {text}" if number < 0 else f" + {text}"


def _term(name, coefficient):
    """Return the signed text of a term."""
    if abs(coefficient) == 1:
        return _signed(coefficient, name)
    return _signed(coefficient, f"{_decimal(abs(coefficient))}*{name}")


class Form:
    """A sum of names with integer coefficients and an integer constant."""

    def __init__(self, coefficients, constant=0):
        for name in coefficients:
            if not valid_name(name):
                raise BadName(name)
        # The property, the calls and the texts rely on this ascending order.
        names = sorted(coefficients)
        self._coefficients = {name: coefficients[name] for name in names if coefficients[name] != 0}
        self._constant = constant

    @property
    def coefficients(self):
        """Return the nonzero coefficients in ascending order of their names, as a new dict."""
        return dict(self._coefficients)

    @property
    def constant(self):
        """Return the constant."""
        return self._constant

    def __getitem__(self, name):
        return self._coefficients.get(name, 0)

    def __contains__(self, name):
        return name in self._coefficients

    # Without this, Python would iterate over form[0], form[1] and so on without an end.
    def __iter__(self):
        raise TypeError("a form cannot be iterated over")

    def __len__(self):
        return len(self._coefficients)

    def __eq__(self, other):
        return (isinstance(other, Form) and self._coefficients == other._coefficients
                and self._constant == other._constant)

    def __neg__(self):
        return self * -1

    def __add__(self, other):
        if isinstance(other, int):
            return Form(self._coefficients, self._constant + other)
        if not isinstance(other, Form):
            return NotImplemented
        total = dict(self._coefficients)
        for name, coefficient in other._coefficients.items():
            total[name] = total.get(name, 0) + coefficient
        return Form(total, self._constant + other._constant)

    def __radd__(self, other):
        return self + other

    def __sub__(self, other):
        return self + -other

    def __rsub__(self, other):
        return -self + other

    def __mul__(self, other):
        if not isinstance(other, int):
            return NotImplemented
        multiplied = {name: coefficient * other for name, coefficient in self._coefficients.items()}
        return Form(multiplied, self._constant * other)

    def __rmul__(self, other):
        return self * other

    def __call__(self, values):
        total = self._constant
        for name, coefficient in self._coefficients.items():
            if name not in values:
                raise UnknownName(name)
            total = total + coefficient * values[name]
        return total

    def __str__(self):
        pieces = [_term(name, coefficient) for name, coefficient in self._coefficients.items()]
        if self._constant != 0 or not pieces:
            pieces.append(_signed(self._constant, _decimal(abs(self._constant))))
        joined = "".join(pieces)
        # The first piece has no blanks around its sign, and no plus.
        sign = "-" if joined.startswith(" - ") else ""
        unsigned = joined[3:]
        return f"{sign}{unsigned}"
