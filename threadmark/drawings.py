"""Drawings: a cyclic order of the edges around each node, and the faces between them."""

from threadmark.errors import InvalidDrawing
from threadmark.webs import other_end


def check_drawing(web, drawing):
    """Raises InvalidDrawing with the least integer that does not have the text of a drawing."""
    joined = [node for node in web.nodes() if web.edges_of(node) != ""]
    for node in sorted(set(joined) | set(drawing)):
        if node not in joined or node not in drawing:
            raise InvalidDrawing(node)
        if sorted(drawing[node]) != list(web.edges_of(node)):
            raise InvalidDrawing(node)


def dart_behind(web, drawing, dart):
    """The dart that comes behind a dart in its face."""
    edge, node = dart
    there = other_end(web.ends(edge), node)
    order = drawing[there]
    return (order[(order.find(edge) + 1) % len(order)], there)


def face_from(web, drawing, dart):
    """The face of a dart, from this dart on."""
    face = [dart]
    here = dart_behind(web, drawing, dart)
    while here != dart:
        face.append(here)
        here = dart_behind(web, drawing, here)
    return face


def walked_faces(web, drawing):
    """The faces of a drawing of some edges of the web, ascending, each from its least dart on."""
    found = []
    walked = {}
    for dart in sorted([(edge, node) for node in drawing for edge in drawing[node]]):
        if dart not in walked:
            face = face_from(web, drawing, dart)
            found.append(face)
            for passed in face:
                walked[passed] = True
    return found


def faces(web, drawing):
    """The faces of a drawing, ascending, each from its least dart on. Raises InvalidDrawing."""
    check_drawing(web, drawing)
    return walked_faces(web, drawing)


def is_flat(web, drawing):
    """Whether each component has as many faces as on a plane. Raises InvalidDrawing."""
    # A face stays in one component, so its first dart tells in which one.
    starts = [face[0][1] for face in faces(web, drawing)]
    for component in web.components():
        inside = [edge for edge in web.edges() if web.ends(edge)[0] in component]
        around = [start for start in starts if start in component]
        if inside and len(around) != len(inside) - len(component) + 2:
            return False
    return True
