"""Derivations: steps from the empty word to the minus sign, by walking around a tree in a flat drawing."""

from threadmark.layouts import find_drawing
from threadmark.webs import Web


def component_alone(web, node):
    """The web of the component of a node without the others. Raises UnknownNode."""
    marks = {member: web.mark(member) for member in web.component_of(node)}
    edges = {edge: web.ends(edge) for edge in web.edges() if web.ends(edge)[0] in marks}
    return Web(marks, edges)


def others_behind(order, edge):
    """The other edges of a cyclic order, beginning behind an edge."""
    at = order.find(edge)
    return order[at + 1:] + order[:at]


def walk_around_tree(web, drawing):
    """Steps that spread each node of a connected web once, and the letters to which they lead.

    The tree consists of the edges that are spread. The letters are met on a walk around it, so each other edge stands
    there twice, and in a flat drawing two such pairs do not cross.
    """
    root = web.nodes()[0]
    letters = drawing[root]
    steps = [("insert", 0, letters[0]), ("spread", 1, root, letters[1:])]
    reached = {root: True}
    at = 0
    while at < len(letters):
        edge = letters[at]
        fresh = [end for end in web.ends(edge) if end not in reached]
        if fresh:
            others = others_behind(drawing[fresh[0]], edge)
            steps.append(("spread", at, fresh[0], others))
            letters = letters[:at] + others + letters[at + 1:]
            reached[fresh[0]] = True
        else:
            at += 1
    return (steps, letters)


def cancelling_steps(letters):
    """Steps that cancel equal neighbours as long as there are any."""
    steps = []
    kept = ""
    for letter in letters:
        if kept.endswith(letter):
            kept = kept[:-1]
            steps.append(("cancel", len(kept)))
        else:
            kept += letter
    return steps


def derivation_of(web, node):
    """A derivation in the component of a node, or None if it is not odd or not flat. Raises UnknownNode."""
    if not web.is_odd(node):
        return None
    alone = component_alone(web, node)
    if len(alone) == 0:
        return [("flip", node)]
    drawing = find_drawing(alone)
    if drawing is None:
        return None
    steps, letters = walk_around_tree(alone, drawing)
    return steps + cancelling_steps(letters)


def find_derivation(web):
    """A derivation of the web, or None if there is none."""
    for component in web.components():
        steps = derivation_of(web, component[0])
        if steps is not None:
            return steps
    return None
