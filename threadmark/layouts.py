"""Layouts: the blocks of a web, and flat drawings that are built path by path."""

from threadmark.drawings import walked_faces
from threadmark.webs import other_end


def regions_without(web, gone):
    """For each node that is left without one of them, the least node to which paths lead from it."""
    regions = {}
    for least in web.nodes():
        waiting = [least] if least != gone and least not in regions else []
        while waiting:
            here = waiting.pop()
            regions[here] = least
            for edge in web.edges_of(here):
                there = other_end(web.ends(edge), here)
                if there != gone and there not in regions:
                    waiting.append(there)
    return regions


def blocks(web):
    """The blocks, ascending, each as an ascending text of edges."""
    # Edges are in one block exactly if they stay in the same region whatever node is removed.
    traces = {edge: () for edge in web.edges()}
    for gone in web.nodes():
        regions = regions_without(web, gone)
        for edge in web.edges():
            one, other = web.ends(edge)
            traces[edge] = traces[edge] + (regions[other if one == gone else one],)
    found = {}
    for edge in web.edges():
        found[traces[edge]] = found.get(traces[edge], "") + edge
    return sorted(list(found.values()))


# A block is drawn path by path. The orders of its drawn nodes grow with each path. The edges that are left fall
# into fragments: two of them are in the same one if they share a node that is not drawn. All drawn nodes of a
# fragment must lie around the face that it is put into. No node lies twice around a face of a block.


def fragment_of(web, left, orders, first):
    """The text of the edges of the fragment that contains an edge."""
    fragment = first
    waiting = [first]
    while waiting:
        here = waiting.pop()
        for node in web.ends(here):
            fresh = "" if node in orders else web.edges_of(node)
            for edge in fresh:
                if edge in left and edge not in fragment:
                    fragment += edge
                    waiting.append(edge)
    return fragment


def fragments(web, left, orders):
    """All fragments of the edges that are left."""
    found = []
    for edge in left:
        if not any([edge in fragment for fragment in found]):
            found.append(fragment_of(web, left, orders, edge))
    return found


def drawn_nodes(web, fragment, orders):
    """The drawn nodes of a fragment, ascending."""
    return sorted({node for edge in fragment for node in web.ends(edge) if node in orders})


def fragment_and_face(web, left, orders):
    """A fragment and the face to put it into, or None if some fragment fits no face.

    The face is a dict from the nodes around it to the edges along which it leaves them.
    """
    rooms = [{node: edge for edge, node in face} for face in walked_faces(web, orders)]
    best = None
    fewest = len(rooms) + 1
    for fragment in fragments(web, left, orders):
        ends = drawn_nodes(web, fragment, orders)
        fitting = [room for room in rooms if all([node in room for node in ends])]
        if not fitting:
            return None
        # A fragment that fits only one face goes first: a path of another one might divide that face.
        if len(fitting) < fewest:
            fewest = len(fitting)
            best = (fragment, fitting[0])
    return best


def path_across(web, fragment, orders):
    """A path through a fragment between two of its drawn nodes: the text of its edges and the list of its nodes."""
    start = drawn_nodes(web, fragment, orders)[0]
    reached = {start: True}
    waiting = [("", [start])]
    # A fragment of a block has two drawn nodes or more, so the search always ends at the return.
    while True:
        path, nodes = waiting.pop()
        for edge in web.edges_of(nodes[-1]):
            there = other_end(web.ends(edge), nodes[-1])
            if edge in fragment and there not in reached:
                if there in orders:
                    return (path + edge, nodes + [there])
                reached[there] = True
                waiting.append((path + edge, nodes + [there]))


def with_path(orders, room, path, nodes):
    """The orders with a path put into a face between its first and its last node."""
    longer = dict(orders)
    for node, edge in ((nodes[0], path[0]), (nodes[-1], path[-1])):
        # The corner of the face lies just before the edge along which it leaves the node.
        longer[node] = orders[node].replace(room[node], edge + room[node])
    for at in range(1, len(path)):
        longer[nodes[at]] = path[at - 1] + path[at]
    return longer


def block_orders(web, block):
    """The cyclic orders around the nodes of a block in a flat drawing of it, or None if there is none."""
    orders = {node: block[0] for node in web.ends(block[0])}
    left = block[1:]
    while left:
        choice = fragment_and_face(web, left, orders)
        if choice is None:
            return None
        fragment, room = choice
        path, nodes = path_across(web, fragment, orders)
        orders = with_path(orders, room, path, nodes)
        left = "".join([edge for edge in left if edge not in path])
    return orders


def find_drawing(web):
    """A flat drawing of the web, or None if there is none."""
    drawing = {}
    for block in blocks(web):
        orders = block_orders(web, block)
        if orders is None:
            return None
        # Blocks that share a node stand side by side around it.
        for node in orders:
            drawing[node] = drawing.get(node, "") + orders[node]
    return drawing
