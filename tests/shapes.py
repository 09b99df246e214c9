"""Webs of which it is known whether they have a flat drawing, and plain answers that do not use the package."""

import itertools
import random

from samples import NAMES, component, many_parts, star

# Seconds. A call takes a few milliseconds; a slow machine may need longer.
QUICKLY = 2

FIVE = list(itertools.combinations(range(5), 2))
SIX = [(one, other) for one in range(3) for other in range(3, 6)]


def joined(count):
    """The pairs of indexes of corners that the paths of a barrier join."""
    return FIVE if count == 5 else SIX


class Maker:
    """Takes nodes and names of edges in a random order as long as there are any."""

    def __init__(self, rng, most_nodes=12, most_edges=24):
        self.rng = rng
        self.marks = {}
        self.edges = {}
        self.free_nodes = rng.sample(range(12), most_nodes)
        self.free_names = rng.sample(NAMES, most_edges)

    def node(self):
        node = self.free_nodes.pop()
        self.marks[node] = self.rng.randint(0, 1)
        return node

    def edge(self, one, other):
        name = self.free_names.pop()
        self.edges[name] = self.rng.choice([(one, other), (other, one)])
        return name

    def path(self, one, other, between):
        """A path from one node to the other with so many nodes between: its text and its nodes between."""
        fresh = [self.node() for at in range(between)]
        nodes = [one] + fresh + [other]
        return "".join(self.edge(*pair) for pair in zip(nodes, nodes[1:])), fresh

    def spare(self, nodes, edges):
        """Whether so many nodes and edges are free."""
        return len(self.free_nodes) >= nodes and len(self.free_names) >= edges

    def ring(self, size):
        """A ring whose faces are its inside and its outside."""
        nodes = [self.node() for at in range(size)]
        for at in range(size):
            self.edge(nodes[at], nodes[(at + 1) % size])
        return [nodes, nodes[::-1]]

    def divide(self, faces):
        """Divides a face by a path, if there is room for one; returns whether there was."""
        face = self.rng.choice(faces)
        start, stop = sorted(self.rng.sample(range(len(face)), 2))
        between = self.rng.choice([0, 0, 0, 1, 1, 2])
        if not self.spare(between, between + 1):
            return False
        path, fresh = self.path(face[start], face[stop], between)
        faces.remove(face)
        faces.append(face[:start + 1] + fresh + face[stop:])
        faces.append(face[start:stop + 1] + fresh[::-1])
        return True

    def leaf(self):
        """A new node at an edge of some node."""
        if self.marks and self.spare(1, 1):
            near = self.rng.choice(sorted(self.marks))
            self.edge(near, self.node())

    def parallel(self):
        """An edge beside some edge."""
        if self.edges and self.spare(0, 1):
            self.edge(*self.edges[self.rng.choice(sorted(self.edges))])

    def parts(self):
        return self.marks, self.edges


def flat_parts(rng, most_nodes=12, most_edges=24):
    """A web that is put together from faces, with more leaves, parallel edges, components and bare nodes."""
    maker = Maker(rng, most_nodes, most_edges)
    faces = maker.ring(rng.randint(2, max(2, most_nodes // 2)))
    while rng.random() < 0.95 and maker.divide(faces):
        pass
    while rng.random() < 0.3:
        rng.choice([maker.leaf, maker.parallel])()
    if rng.random() < 0.3 and maker.spare(3, 3):
        maker.ring(3)
    while rng.random() < 0.2 and maker.spare(1, 0):
        maker.node()
    return maker.parts()


def full_flat_parts(rng):
    """A flat web with twelve nodes and twenty-four edges."""
    while True:
        maker = Maker(rng)
        faces = maker.ring(rng.randint(3, 8))
        while maker.free_names and maker.divide(faces):
            pass
        if not maker.free_names and not maker.free_nodes:
            return maker.parts()


def barred_parts(rng, extra=True):
    """A web with five or six corners that are joined by paths, and the barrier that they are."""
    maker = Maker(rng)
    count = rng.choice([5, 6])
    corners = tuple(maker.node() for at in range(count))
    pairs = joined(count)
    spare = [rng.randrange(len(pairs)) for at in range(rng.randint(0, len(maker.free_nodes) - 1))]
    paths = tuple(maker.path(corners[one], corners[other], spare.count(at))[0] for at, (one, other) in enumerate(pairs))
    if extra:
        while rng.random() < 0.6:
            rng.choice([maker.leaf, maker.parallel])()
        while rng.random() < 0.6 and maker.spare(0, 1):
            maker.edge(*rng.sample(sorted(maker.marks), 2))
    return maker.parts(), (corners, paths)


def without(parts, name):
    """The web without an edge."""
    return parts[0], {kept: pair for kept, pair in parts[1].items() if kept != name}


def thinned(rng, parts):
    """The web with some edges removed."""
    for name in rng.sample(sorted(parts[1]), min(len(parts[1]), rng.randint(1, 4))):
        parts = without(parts, name)
    return parts


def mixed_parts(rng):
    """Some web, with or without a flat drawing."""
    match rng.randint(0, 3):
        case 0:
            return flat_parts(rng, rng.randint(2, 12), rng.randint(6, 24))
        case 1:
            return barred_parts(rng)[0]
        case 2:
            return thinned(rng, barred_parts(rng)[0])
        case 3:
            return thinned(rng, barred_parts(rng, False)[0])


def several_parts(rng):
    """A web of up to three parts side by side, as far as there is room."""
    maker = Maker(rng)
    for count in range(rng.randint(1, 3)):
        kind = rng.choice(["five", "six", "ring", "tree", "bare"])
        if kind == "five" and maker.spare(5, 10):
            corners = [maker.node() for at in range(5)]
            for one, other in FIVE:
                maker.edge(corners[one], corners[other])
        elif kind == "six" and maker.spare(6, 9):
            corners = [maker.node() for at in range(6)]
            for one, other in SIX:
                maker.edge(corners[one], corners[other])
        elif kind == "ring" and maker.spare(4, 4):
            maker.divide(maker.ring(rng.randint(2, 4)))
        elif kind == "tree" and maker.spare(3, 2):
            maker.path(maker.node(), maker.node(), 1)
        elif maker.spare(1, 0):
            maker.node()
    while rng.random() < 0.5:
        rng.choice([maker.leaf, maker.parallel])()
    return maker.parts()


def kinds_of_parts(count, seed):
    """Webs of many kinds."""
    rng = random.Random(seed)
    return many_parts(count, seed) + [rng.choice([mixed_parts, several_parts])(rng) for at in range(2 * count)]


def evened(parts):
    """The web with all nodes even."""
    return {node: 0 for node in parts[0]}, parts[1]


def full_parts(rng):
    """Any web with twelve nodes and twenty-four edges."""
    return {node: rng.randint(0, 1) for node in range(12)}, {name: tuple(rng.sample(range(12), 2)) for name in NAMES}


def joined_nodes(parts):
    """The nodes that are not bare, ascending."""
    return sorted(node for node in parts[0] if star(parts, node))


def random_drawing(rng, parts):
    """Any cyclic orders."""
    nodes = joined_nodes(parts)
    rng.shuffle(nodes)
    return {node: "".join(rng.sample(star(parts, node), len(star(parts, node)))) for node in nodes}


def faces_of(parts, drawing):
    """The faces, as the cycles of the permutation of the darts."""
    behind = {}
    for edge, (one, other) in parts[1].items():
        for here, there in ((one, other), (other, one)):
            order = drawing[there] * 2
            behind[(edge, here)] = (order[order.index(edge) + 1], there)
    found = []
    while behind:
        dart = min(behind)
        face = []
        while dart in behind:
            face.append(dart)
            dart = behind.pop(dart)
        found.append(face)
    return found


def flat(parts, drawing):
    """Whether a drawing is flat, by counting the faces of each component."""
    found = faces_of(parts, drawing)
    for members in {component(parts, node) for node in joined_nodes(parts)}:
        edges = [name for name, pair in parts[1].items() if pair[0] in members]
        around = [face for face in found if face[0][1] in members]
        if len(around) - 2 != len(edges) - len(members):
            return False
    return True


def is_drawing(parts, drawing):
    """Whether each node that is not bare, and nothing else, has its edges, each once."""
    if sorted(drawing) != joined_nodes(parts):
        return False
    return all(sorted(drawing[node]) == list(star(parts, node)) for node in drawing)


def trail(parts, path, start):
    """The nodes along a path from a node, or None if there is no such path."""
    nodes = [start]
    for name in path:
        if nodes[-1] not in parts[1].get(name, ()):
            return None
        one, other = parts[1][name]
        nodes.append(other if nodes[-1] == one else one)
    return nodes


def is_barrier(parts, barrier):
    """Whether corners and paths are a barrier, by what the document says of each."""
    corners, paths = barrier
    if len(corners) not in (5, 6) or len(set(corners)) != len(corners) or not set(corners) <= set(parts[0]):
        return False
    if len(paths) != len(joined(len(corners))):
        return False
    inner = []
    for (one, other), path in zip(joined(len(corners)), paths):
        nodes = trail(parts, path, corners[one])
        if nodes is None or len(nodes) < 2 or nodes[-1] != corners[other] or len(set(nodes)) != len(nodes):
            return False
        inner.append(set(nodes[1:-1]))
    if any(between & set(corners) for between in inner):
        return False
    return not any(one & other for one, other in itertools.combinations(inner, 2))
