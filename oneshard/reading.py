"""Reading the rows of a pattern's text."""

from oneshard.errors import OutOfRange
from oneshard.forms import Form
from oneshard.lines import Congruence, Equation, Unlike
from oneshard.naming import DIGITS, valid_name

MOST_DIGITS = 6
SIGNS = {"+": 1, "-": -1}
UNLIKE_MARK = " != "
EQUAL_MARK = " = "
MODULUS_MARK = " (mod "
MODULUS_END = ")"


def _read_number(text):
    """Return the integer that a number writes, or None if the text is no number."""
    if not 1 <= len(text) <= MOST_DIGITS or not all([character in DIGITS for character in text]):
        return None
    if text[0] == "0" and len(text) > 1:
        return None
    return int(text)


def _read_term(text):
    """Return the pair (name, number) of a term, or None if the text is no term; a number has the name None."""
    if valid_name(text):
        return (text, 1)
    digits, star, name = text.partition("*")
    number = _read_number(digits)
    if number is None:
        return None
    if star == "":
        return (None, number)
    return (name, number) if valid_name(name) else None


def _signed_words(text):
    """Return the words of a side, with a sign as a word of its own before each term."""
    first, *others = text.split(" ")
    if first.startswith("-"):
        return ["-", first[1:], *others]
    return ["+", first, *others]


def _read_side(text):
    """Return the pairs (name, signed number) of all terms of a side, or None if the text is no side."""
    words = _signed_words(text)
    if len(words) % 2 != 0:
        return None
    pairs = []
    for sign, word in zip(words[::2], words[1::2]):
        term = _read_term(word)
        if sign not in SIGNS or term is None:
            return None
        name, number = term
        pairs.append((name, SIGNS[sign] * number))
    return pairs


def _added_up(pairs):
    """Return the form that is the sum of all terms."""
    coefficients = {}
    constant = 0
    for name, number in pairs:
        if name is None:
            constant = constant + number
        else:
            coefficients[name] = coefficients.get(name, 0) + number
    return Form(coefficients, constant)


def _read_form(text, names):
    """Return the left side minus the right side of an equation, or None if the text is no equation."""
    left_text, _, right_text = text.partition(EQUAL_MARK)
    left = _read_side(left_text)
    right = _read_side(right_text)
    if left is None or right is None:
        return None
    pairs = left + [(name, -number) for name, number in right]
    # Names whose terms cancel are gone from the form, so they are looked at here.
    if any([name is not None and name not in names for name, _ in pairs]):
        return None
    return _added_up(pairs)


def _read_modulus(text):
    """Return the modulus that stands behind its mark, or None if there is none."""
    if not text.endswith(MODULUS_END):
        return None
    return _read_number(text[:-1])


def _read_unlike(row, names):
    """Return the inequality that a row writes, or None if the row is no right inequality."""
    first, _, second = row.partition(UNLIKE_MARK)
    if first == second or first not in names or second not in names:
        return None
    return Unlike(first, second)


def _read_sum(row, names):
    """Return the equation or congruence that a row writes, or None if it is neither; may raise OutOfRange."""
    text, mark, rest = row.partition(MODULUS_MARK)
    form = _read_form(text, names)
    if form is None:
        return None
    if mark == "":
        return Equation(form)
    modulus = _read_modulus(rest)
    return None if modulus is None else Congruence(form, modulus)


def read_row(row, names):
    """Return the line that a row writes over the names, or None if the row is wrong."""
    if UNLIKE_MARK in row:
        return _read_unlike(row, names)
    try:
        return _read_sum(row, names)
    except OutOfRange:
        return None
