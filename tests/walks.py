"""Steps of all kinds, and what they do to words, without the package."""

from samples import random_word, split, star, with_sign

PAIR = ({0: 1, 1: 0}, {"a": (0, 1)})
PAIR_STEPS = [("insert", 0, "a"), ("spread", 1, 0, ""), ("spread", 0, 1, "")]
# Two parallel edges, an odd end, a triangle, an odd and an even bare node.
MIXED = ({0: 1, 1: 0, 2: 1, 3: 0, 6: 1, 9: 0}, {"a": (0, 1), "b": (1, 0), "c": (1, 2), "d": (0, 2), "e": (2, 3)})


def replaced(word, at, stop, fresh, turns):
    sign, letters = split(word)
    return with_sign(sign + turns, letters[:at] + fresh + letters[stop:])


def model(parts, word, step):
    """The word behind a step, or None, as the document says it."""
    marks, edges = parts
    letters = split(word)[1]
    match list(step):
        case ["insert", int(at), str(edge)] if at in range(len(letters) + 1) and edge in edges:
            return replaced(word, at, at, edge * 2, 0)
        case ["cancel", int(at)] if at in range(len(letters) - 1) and letters[at] == letters[at + 1]:
            return replaced(word, at, at + 2, "", 0)
        case ["swap", int(at)] if at in range(len(letters) - 1):
            one, other = letters[at:at + 2]
            if set(edges[one]) & set(edges[other]):
                return replaced(word, at, at + 2, other + one, 0)
        case ["spread", int(at), int(node), str(others)] if node in marks and at in range(len(letters)):
            if "".join(sorted(others + letters[at])) == star(parts, node):
                return replaced(word, at, at + 1, others, marks[node])
        case ["gather", int(at), int(node), str(edge)] if edge in edges and node in edges[edge]:
            many = len(star(parts, node)) - 1
            if at in range(len(letters) - many + 1):
                if "".join(sorted(letters[at:at + many] + edge)) == star(parts, node):
                    return replaced(word, at, at + many, edge, marks[node])
        case ["flip", int(node)] if marks.get(node) == 1 and star(parts, node) == "":
            return replaced(word, 0, 0, "", 1)
    return None


def mixed_up(rng, text):
    return "".join(rng.sample(text, len(text)))


def all_steps(rng, parts, word):
    """Steps of all kinds at all positions, also somewhat out of range, valid or not."""
    marks, edges = parts
    letters = split(word)[1]
    for at in range(-2, len(letters) + 3):
        yield ("cancel", at)
        yield ("swap", at)
        for edge in edges:
            yield ("insert", at, edge)
            for node in edges[edge]:
                yield ("gather", at, node, edge)
                yield ("spread", at, node, mixed_up(rng, star(parts, node).replace(edge, "")))
        for node in marks:
            yield ("spread", at, node, "")
    for node in range(-1, 13):
        yield ("flip", node)


def valid_steps(rng, parts, word):
    return [step for step in all_steps(rng, parts, word) if model(parts, word, step) is not None]


def with_stars(rng, parts, most=4):
    """A word in which gathers are likely."""
    pieces = [random_word(rng, list(parts[1]), 3).replace("-", "")]
    for count in range(rng.randint(0, most)):
        node = rng.choice(list(parts[0])) if parts[0] else None
        text = mixed_up(rng, star(parts, node))
        pieces.append(text[1:] if rng.randint(0, 3) else text)
    return rng.choice(["", "-"]) + "".join(pieces)


def walk(rng, parts, word, count, wanted=lambda word, step: True):
    """So many valid and wanted steps from a word, and the words along them; fewer if none can be done."""
    steps = []
    words = [word]
    while len(steps) < count:
        kinds = {}
        for step in valid_steps(rng, parts, words[-1]):
            if wanted(words[-1], step):
                kinds.setdefault(step[0], []).append(step)
        if len(words[-1]) > 40:
            kinds.pop("insert", None)
        if not kinds:
            break
        step = rng.choice(kinds[rng.choice(sorted(kinds))])
        steps.append(step)
        words.append(model(parts, words[-1], step))
    return steps, words
