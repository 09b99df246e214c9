"""Words: signed texts of edges."""

from threadmark.errors import InvalidWord
from threadmark.signs import letters_of, sign_of, signed


def check_word(web, word):
    """Raises InvalidWord with the first position of a letter that is no edge of the web."""
    for position, letter in enumerate(letters_of(word)):
        if letter not in web:
            raise InvalidWord(position)


def product(*words):
    """The product of any number of words."""
    letters = "".join([letters_of(word) for word in words])
    return signed(sum([sign_of(word) for word in words]), letters)


def inverse(word):
    """The word with its letters in reverse order and the same sign."""
    return signed(sign_of(word), letters_of(word)[::-1])


def reduced(word):
    """The word after equal neighbours are cancelled as long as there are any."""
    kept = []
    for letter in letters_of(word):
        if kept and kept[-1] == letter:
            kept.pop()
        else:
            kept.append(letter)
    return signed(sign_of(word), "".join(kept))


def cut_word(word, edge):
    """The word without the letters that are this edge."""
    return word.replace(edge, "")


def contract_word(web, word, edge):
    """The word that stands for a word in the web where the edge is contracted. Raises UnknownEdge, InvalidWord."""
    ends = web.ends(edge)
    check_word(web, word)
    lesser = ends[0]
    others = "".join([name for name in web.edges_of(lesser) if web.ends(name) != ends])
    parts = []
    turns = sign_of(word)
    for letter in letters_of(word):
        if letter == edge:
            parts.append(others)
            turns += web.mark(lesser)
        elif web.ends(letter) != ends:
            parts.append(letter)
    return signed(turns, "".join(parts))
