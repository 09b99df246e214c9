"""Webs and words in which an edge is cut or contracted, without the package."""

from samples import split, star, with_sign


def cut_parts(parts, edge):
    """The web without an edge."""
    return parts[0], {name: pair for name, pair in parts[1].items() if name != edge}


def cut_of(parts, word, edge):
    """The word without an edge."""
    return "".join(letter for letter in word if letter != edge)


def contracted_parts(parts, edge):
    """The web in which an edge is contracted."""
    marks, edges = parts
    low, high = sorted(edges[edge])
    kept = {node: marks[node] for node in marks if node != high}
    kept[low] = (marks[low] + marks[high]) % 2
    others = {name: pair for name, pair in edges.items() if set(pair) != {low, high}}
    return kept, {name: tuple(low if end == high else end for end in pair) for name, pair in others.items()}


def contracted_of(parts, word, edge):
    """The word in the web in which an edge is contracted."""
    marks, edges = parts
    low = min(edges[edge])
    parallel = [name for name in edges if set(edges[name]) == set(edges[edge])]
    others = "".join(name for name in star(parts, low) if name not in parallel)
    sign, letters = split(word)
    fresh = "".join(others if x == edge else "" if x in parallel else x for x in letters)
    return with_sign(sign + letters.count(edge) * marks[low], fresh)
