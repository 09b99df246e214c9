"""Barriers: five or six corners and paths between them that no flat drawing contains."""

from threadmark.layouts import find_drawing
from threadmark.webs import other_end


def joined_corners(count):
    """The pairs of indexes of so many corners that paths join, ascending; none if no barrier has so many."""
    if count == 5:
        return [(one, other) for one in range(5) for other in range(one + 1, 5)]
    if count == 6:
        return [(one, other) for one in range(3) for other in range(3, 6)]
    return []


def without_needless_edges(web):
    """A web without a flat drawing, with as many of its edges cut as leave it without one."""
    core = web
    for edge in web.edges():
        smaller = core.cut(edge)
        if find_drawing(smaller) is None:
            core = smaller
    return core


def path_from(core, corner, first):
    """The path from a corner along an edge to the next corner: the text of its edges and that corner."""
    path = first
    here = other_end(core.ends(first), corner)
    while len(core.edges_of(here)) == 2:
        onward = core.edges_of(here).replace(path[-1], "")
        path += onward
        here = other_end(core.ends(onward), here)
    return (path, here)


def paths_between(core, corners):
    """The paths between corners, by the pairs of corners that they lead from and to."""
    paths = {}
    for corner in corners:
        for first in core.edges_of(corner):
            path, there = path_from(core, corner, first)
            paths[(corner, there)] = path
    return paths


def find_barrier(web):
    """A barrier of the web, or None if there is none."""
    if find_drawing(web) is not None:
        return None
    # Without needless edges, nothing but one barrier is left.
    core = without_needless_edges(web)
    corners = [node for node in core.nodes() if len(core.edges_of(node)) > 2]
    paths = paths_between(core, corners)
    if len(corners) == 6:
        far = [node for node in corners if (corners[0], node) in paths]
        corners = [node for node in corners if node not in far] + far
    pairs = joined_corners(len(corners))
    return (tuple(corners), tuple([paths[(corners[one], corners[other])] for one, other in pairs]))


def nodes_between(web, path, start, goal):
    """The nodes that a path meets between its ends, or None if it does not lead from the start to the goal."""
    met = [start]
    for edge in path:
        if edge not in web or met[-1] not in web.ends(edge):
            return None
        met.append(other_end(web.ends(edge), met[-1]))
    return met[1:-1] if met[-1] == goal else None


def check_barrier(web, barrier):
    """Whether a tuple of corners and paths is a barrier of the web."""
    corners, paths = barrier
    pairs = joined_corners(len(corners))
    if not pairs or len(paths) != len(pairs) or not all([corner in web.nodes() for corner in corners]):
        return False
    met = list(corners)
    for (one, other), path in zip(pairs, paths):
        between = nodes_between(web, path, corners[one], corners[other])
        if between is None:
            return False
        met += between
    return len(set(met)) == len(met)
