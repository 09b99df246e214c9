"""Strings: signed texts of the letters 1, X, Z and W, which are multiplied letter by letter."""

from threadmark.errors import InvalidString, LengthMismatch
from threadmark.signs import letters_of, sign_of, signed

STRING_LETTERS = "1XZW"

PRODUCTS = {
    "11": "1",
    "1X": "X",
    "1Z": "Z",
    "1W": "W",
    "X1": "X",
    "XX": "1",
    "XZ": "W",
    "XW": "Z",
    "Z1": "Z",
    "ZX": "-W",
    "ZZ": "1",
    "ZW": "-X",
    "W1": "W",
    "WX": "-Z",
    "WZ": "X",
    "WW": "-1",
}


def is_string(text):
    """Whether a text is a string."""
    return all([letter in STRING_LETTERS for letter in letters_of(text)])


def check_string(text):
    """Raises InvalidString if a text is no string."""
    if not is_string(text):
        raise InvalidString(text)


def product_of_two(one, other):
    """The product of two strings of the same length."""
    products = [PRODUCTS[left + right] for left, right in zip(letters_of(one), letters_of(other))]
    turns = sign_of(one) + sign_of(other) + sum([sign_of(text) for text in products])
    return signed(turns, "".join([letters_of(text) for text in products]))


def multiply(*strings):
    """The product of any number of strings. Raises InvalidString, LengthMismatch."""
    for text in strings:
        check_string(text)
    if len({len(letters_of(text)) for text in strings}) > 1:
        raise LengthMismatch()
    if len(strings) == 0:
        return ""
    total = strings[0]
    for text in strings[1:]:
        total = product_of_two(total, text)
    return total


def commute(one, other):
    """Whether two strings commute. Raises InvalidString, LengthMismatch."""
    return multiply(one, other) == multiply(other, one)


def identity(size):
    """The string of so many letters 1."""
    return "1" * size


class SignedString:
    """A string as a value. It never changes."""

    def __init__(self, text):
        check_string(text)
        self.written = text

    def __eq__(self, other):
        return isinstance(other, SignedString) and self.written == other.written

    def __len__(self):
        return len(letters_of(self.written))

    def __repr__(self):
        return f"SignedString({self.written})"

    def __mul__(self, other):
        if not isinstance(other, SignedString):
            return NotImplemented
        return SignedString(multiply(self.written, other.written))

    def __neg__(self):
        return SignedString(signed(sign_of(self.written) + 1, letters_of(self.written)))

    def __contains__(self, x):
        return x in list(letters_of(self.written))

    def text(self):
        """The text of the string."""
        return self.written
