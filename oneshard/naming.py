"""Names of a pattern."""

MOST_CHARACTERS = 6
LETTERS = "abcdefghijklmnopqrstuvwxyz"
DIGITS = "0123456789"
# This word opens the modulus of a congruence, so it cannot be a name.
RESERVED = "mod"


def valid_name(text):
    """Return True if the string is a name, otherwise False."""
    if text == RESERVED or not 1 <= len(text) <= MOST_CHARACTERS:
        return False
    if text[0] not in LETTERS:
        return False
    return all([character in LETTERS or character in DIGITS for character in text])
