"""Words to compare with each other, in webs that have a table."""

from counting import has_flat_odd_component, strangers
from samples import random_word, split, star, with_sign
from shapes import evened
from walks import mixed_up


def negative(word):
    """The word with the other sign."""
    sign, text = split(word)
    return with_sign(sign + 1, text)


def joined(*words):
    """The product of words."""
    return with_sign(sum(split(word)[0] for word in words), "".join(split(word)[1] for word in words))


def with_table(parts):
    """The web itself, or with all nodes even if it has no table."""
    return evened(parts) if has_flat_odd_component(parts) else parts


def put_in(rng, word, text):
    """The word with a text put in somewhere."""
    sign, old = split(word)
    at = rng.randint(0, len(old))
    return with_sign(sign, old[:at] + text + old[at:])


def some_other(rng, parts, word):
    """A word to compare a word with: drawn, turned, with a node, with two strangers twice, moved or multiplied."""
    notes = strangers(parts)
    match rng.randint(0, 6):
        case 0:
            return random_word(rng, list(parts[1]), 6)
        case 1:
            return negative(word)
        case 2 if parts[0]:
            return put_in(rng, word, mixed_up(rng, star(parts, rng.choice(list(parts[0])))))
        case 3 if notes:
            return put_in(rng, word, mixed_up(rng, rng.choice(notes)) * 2)
        case 4 if len(notes) > 1:
            one, other = rng.sample(notes, 2)
            return put_in(rng, put_in(rng, word, one * 2), other * 2)
        case 5:
            return with_sign(split(word)[0], mixed_up(rng, split(word)[1]))
        case _:
            node = star(parts, rng.choice(list(parts[0]))) if parts[0] else ""
            return joined(word, node, random_word(rng, list(parts[1]), 2), "-")
