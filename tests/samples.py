"""Webs to test with, and plain answers about them that do not use the package."""

import inspect
import random

NAMES = "abcdefghijklmnopqrstuvwx"


def random_parts(rng, most_nodes=12, most_edges=24):
    """The marks and edges of a web, with shuffled keys and the ends of each edge in either order."""
    nodes = rng.sample(range(12), rng.randint(0, most_nodes))
    marks = {node: rng.randint(0, 1) for node in nodes}
    edges = {}
    if len(nodes) > 1:
        for name in rng.sample(NAMES, rng.randint(0, most_edges)):
            edges[name] = tuple(rng.sample(nodes, 2))
    return marks, edges


def many_parts(count, seed, most_nodes=12, most_edges=24):
    """The parts of so many webs, dense and sparse ones, and of some that every list of webs should have."""
    rng = random.Random(seed)
    fixed = [
        ({}, {}),
        ({5: 1}, {}),
        ({0: 0, 11: 1}, {}),
        ({1: 1, 0: 1}, {"x": (1, 0)}),
        ({0: 1, 1: 0}, {"c": (1, 0), "a": (0, 1), "b": (1, 0)}),
        ({0: 1, 1: 0, 2: 1, 5: 0}, {"b": (2, 1), "a": (0, 1)}),
    ]
    small = [random_parts(rng, rng.randint(2, most_nodes), rng.randint(1, most_edges)) for at in range(count)]
    return fixed + small


def shuffled(rng, parts):
    """The same web from dicts in another order, with some pairs turned."""
    marks, edges = parts
    nodes = list(marks)
    names = list(edges)
    rng.shuffle(nodes)
    rng.shuffle(names)
    turned = {name: edges[name][::rng.choice([1, -1])] for name in names}
    return {node: marks[node] for node in nodes}, turned


def star(parts, node):
    """The text of the edges of a node."""
    return "".join(sorted(name for name, pair in parts[1].items() if node in pair))


def component(parts, node):
    """The component of a node, by adding ends until nothing changes."""
    reached = {node}
    while True:
        more = {end for pair in parts[1].values() if reached & set(pair) for end in pair}
        if more <= reached:
            return tuple(sorted(reached))
        reached |= more


def text(parts):
    """The text of a web."""
    marks, edges = parts
    nodes = " ".join(str(node) + "*" * marks[node] for node in sorted(marks))
    return nodes + "".join(f"; {name} {min(edges[name])} {max(edges[name])}" for name in sorted(edges))


def split(text):
    """The sign of a word or string, 0 or 1, and its letters."""
    return (1, text[1:]) if text[:1] == "-" else (0, text)


def with_sign(turns, letters):
    """The letters with the sign that so many turns leave."""
    return "-" * (turns % 2) + letters


def random_word(rng, names, most=12):
    """A word of these edges."""
    letters = "".join(rng.choice(names) for at in range(rng.randint(0, most))) if names else ""
    return rng.choice(["", "-"]) + letters


def raised(case, error, call, *fields):
    """Checks that a call raises exactly this error with these fields."""
    with case.assertRaises(error) as caught:
        call()
    case.assertEqual(error, caught.exception.__class__)
    shown = [value for name, value in vars(caught.exception).items() if name != "code"]
    case.assertEqual(list(fields), shown)


def check_functions(case, modules):
    """Checks that each module defines its functions with these parameters."""
    for module, functions in modules.items():
        for name, expected in functions.items():
            function = getattr(module, name)
            case.assertEqual(module.__name__, function.__module__)
            case.assertEqual(expected, str(inspect.signature(function)), name)
