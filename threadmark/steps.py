"""Steps: the rewritings of words, and the lists of them that lead from word to word."""

from threadmark.errors import InvalidStep
from threadmark.signs import letters_of, sign_of, signed
from threadmark.words import check_word

# For each kind of step its parts: t is a text, n is a number.
FORMS = {
    "insert": "tnt",
    "cancel": "tn",
    "swap": "tn",
    "spread": "tnnt",
    "gather": "tnnt",
    "flip": "tn",
}


def has_form(step):
    """Whether a tuple of texts and integers has the parts of a step."""
    parts = "".join(["n" if isinstance(part, int) else "t" for part in step])
    return len(step) > 0 and step[0] in FORMS and FORMS[step[0]] == parts


# Each of the following functions tells what one kind of step does to the letters of a word:
# (start, stop, fresh, turns) if it puts the fresh letters in place of those from start to stop - 1
# and turns the sign so many times, or None if it cannot be done.


def change_by_insert(web, letters, at, edge):
    """What an insert does."""
    if 0 <= at <= len(letters) and edge in web:
        return (at, at, edge + edge, 0)
    return None


def change_by_cancel(web, letters, at):
    """What a cancel does."""
    if 0 <= at < len(letters) - 1 and letters[at] == letters[at + 1]:
        return (at, at + 2, "", 0)
    return None


def change_by_swap(web, letters, at):
    """What a swap does."""
    if 0 <= at < len(letters) - 1 and web.touch(letters[at], letters[at + 1]):
        return (at, at + 2, letters[at + 1] + letters[at], 0)
    return None


def change_by_spread(web, letters, at, node, others):
    """What a spread does."""
    if node not in web.nodes() or not 0 <= at < len(letters):
        return None
    if sorted(letters[at] + others) != list(web.edges_of(node)):
        return None
    return (at, at + 1, others, web.mark(node))


def change_by_gather(web, letters, at, node, edge):
    """What a gather does."""
    if node not in web.nodes() or edge not in web:
        return None
    stop = gather_stop(web, at, node)
    if at < 0 or stop > len(letters):
        return None
    if sorted(letters[at:stop] + edge) != list(web.edges_of(node)):
        return None
    return (at, stop, edge, web.mark(node))


def gather_stop(web, at, node):
    """The position behind the letters that a gather at this position replaces."""
    return at + len(web.edges_of(node)) - 1


def change_by_flip(web, letters, node):
    """What a flip does."""
    if node in web.nodes() and web.mark(node) == 1 and web.edges_of(node) == "":
        return (0, 0, "", 1)
    return None


CHANGES = {
    "insert": change_by_insert,
    "cancel": change_by_cancel,
    "swap": change_by_swap,
    "spread": change_by_spread,
    "gather": change_by_gather,
    "flip": change_by_flip,
}


def change_by_step(web, letters, step):
    """What a step does, or None if it is invalid."""
    if not has_form(step):
        return None
    change_by = CHANGES[step[0]]
    parts = step[1:]
    return change_by(web, letters, *parts)


def word_behind(web, word, step):
    """The word behind a step, or None if the step is invalid."""
    letters = letters_of(word)
    change = change_by_step(web, letters, step)
    if change is None:
        return None
    start, stop, fresh, turns = change
    return signed(sign_of(word) + turns, letters[:start] + fresh + letters[stop:])


def words_along(web, word, steps):
    """Yields the word and then the word behind each step. Raises InvalidWord, InvalidStep."""
    check_word(web, word)
    # The caller may change its list between two words.
    kept = list(steps)
    here = word
    yield here
    for index, step in enumerate(kept):
        here = word_behind(web, here, step)
        if here is None:
            raise InvalidStep(index)
        yield here


def run_steps(web, word, steps):
    """The word to which the steps lead. Raises InvalidWord, InvalidStep."""
    last = word
    for here in words_along(web, word, steps):
        last = here
    return last


def opposite_step(web, word, step):
    """The step that leads back to a word from the word behind a valid step."""
    letters = letters_of(word)
    kind = step[0]
    at = step[1]
    if kind == "insert":
        return ("cancel", at)
    if kind == "cancel":
        return ("insert", at, letters[at])
    if kind == "spread":
        return ("gather", at, step[2], letters[at])
    if kind == "gather":
        return ("spread", at, step[2], letters[at:gather_stop(web, at, step[2])])
    # A swap and a flip undo themselves.
    return step


def opposite_steps(web, word, steps):
    """The steps that lead back from the last word to the word. Raises InvalidWord, InvalidStep."""
    words = list(words_along(web, word, steps))
    opposites = [opposite_step(web, before, step) for before, step in zip(words, steps)]
    return opposites[::-1]


def is_derivation(web, steps):
    """Whether the steps lead from the empty word to `-`."""
    try:
        return run_steps(web, "", steps) == "-"
    except InvalidStep:
        return False
