"""Texts with an optional sign in front of their letters: words and strings are both written so."""


def letters_of(text):
    """The letters of a signed text."""
    return text.removeprefix("-")


def sign_of(text):
    """The sign of a signed text: 1 if it has a `-`, otherwise 0."""
    return len(text) - len(letters_of(text))


def signed(turns, letters):
    """The letters with the sign that so many turns leave."""
    return "-" + letters if turns % 2 == 1 else letters
