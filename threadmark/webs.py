"""Webs: graphs with even and odd nodes."""

from threadmark.errors import (
    EdgeTaken,
    InvalidEdge,
    InvalidMark,
    InvalidName,
    InvalidNode,
    LimitExceeded,
    NodeTaken,
    NotBare,
    ParseError,
    UnknownEdge,
    UnknownNode,
)

EDGE_NAMES = "abcdefghijklmnopqrstuvwx"

# A complete web of eight nodes would need more edges than there are names.
MAX_COMPLETE = 7


def is_node(number):
    """Whether some web can have this node."""
    return 0 <= number < Web.MAX_NODES


def is_mark(number):
    """Whether a node can have this mark."""
    return number in (0, 1)


def is_name(text):
    """Whether some web can have an edge of this name."""
    return len(text) == 1 and text in EDGE_NAMES


def joins_two(marks, pair):
    """Whether a pair consists of two different nodes among the keys of the marks."""
    return len(pair) == 2 and pair[0] != pair[1] and pair[0] in marks and pair[1] in marks


def check_marks(marks):
    """Raises InvalidNode or InvalidMark if these are not the marks of a web."""
    for node in sorted(marks):
        if not is_node(node):
            raise InvalidNode(node)
    for node in sorted(marks):
        if not is_mark(marks[node]):
            raise InvalidMark(node)


def check_edges(marks, edges):
    """Raises InvalidName or InvalidEdge if these are not the edges of a web with these marks."""
    for name in sorted(edges):
        if not is_name(name):
            raise InvalidName(name)
    for name in sorted(edges):
        if not joins_two(marks, edges[name]):
            raise InvalidEdge(name)


def marks_up_to(count, odd):
    """The marks of the nodes from 0 to `count` - 1. Raises InvalidNode with an odd one that is none of them."""
    for node in odd:
        if not 0 <= node < count:
            raise InvalidNode(node)
    return {node: 1 if node in odd else 0 for node in range(count)}


def named(pairs):
    """The edges between these pairs, with the names in their order."""
    return dict(zip(EDGE_NAMES, pairs))


def other_end(pair, node):
    """The end of an edge that is not this one."""
    return pair[1] if pair[0] == node else pair[0]


def node_written(text):
    """The node with this number. Raises ParseError."""
    if text not in [str(node) for node in range(Web.MAX_NODES)]:
        raise ParseError()
    return int(text)


def marks_written(text):
    """The marks of the nodes in a text. Raises ParseError."""
    marks = {}
    for word in text.split(" "):
        digits = word.removesuffix("*")
        marks[node_written(digits)] = len(word) - len(digits)
    return marks


def edges_written(texts):
    """The edges that are written in these texts, one in each. Raises ParseError."""
    edges = {}
    for text in texts:
        words = text.split(" ")
        if len(words) != 3:
            raise ParseError()
        edges[words[0]] = (node_written(words[1]), node_written(words[2]))
    return edges


class Web:
    """A graph whose nodes are marked even or odd. It never changes: every change makes another web."""

    MAX_NODES = 12
    MAX_EDGES = 24

    def __init__(self, marks, edges):
        check_marks(marks)
        check_edges(marks, edges)
        self.marks = {node: marks[node] for node in sorted(marks)}
        self.pairs = {name: tuple(sorted(edges[name])) for name in sorted(edges)}
        self.stars = {}
        for node in self.marks:
            self.stars[node] = "".join([name for name in self.pairs if node in self.pairs[name]])

    def __eq__(self, other):
        return isinstance(other, Web) and self.marks == other.marks and self.pairs == other.pairs

    def __len__(self):
        return len(self.pairs)

    def __repr__(self):
        return f"Web({len(self.marks)} nodes, {len(self.pairs)} edges)"

    def __contains__(self, x):
        return x in self.pairs

    @staticmethod
    def empty():
        """The web without nodes."""
        return Web({}, {})

    @classmethod
    def complete(cls, count, *, odd=()):
        """The web with an edge for each two of so many nodes. Raises LimitExceeded, InvalidNode."""
        if count > MAX_COMPLETE:
            raise LimitExceeded(MAX_COMPLETE)
        marks = marks_up_to(count, odd)
        pairs = [(one, other) for one in range(count) for other in range(one + 1, count)]
        return cls(marks, named(pairs))

    @classmethod
    def bipartite(cls, first, second, *, odd=()):
        """The web in which each of the first nodes is joined to each other one. Raises LimitExceeded, InvalidNode."""
        if first + second > cls.MAX_NODES:
            raise LimitExceeded(cls.MAX_NODES)
        if first * second > cls.MAX_EDGES:
            raise LimitExceeded(cls.MAX_EDGES)
        marks = marks_up_to(first + second, odd)
        pairs = [(one, other) for one in range(first) for other in range(first, first + second)]
        return cls(marks, named(pairs))

    @classmethod
    def parse(cls, text):
        """The web of a text. Raises ParseError."""
        if text == "":
            return cls({}, {})
        parts = text.split("; ")
        marks = marks_written(parts[0])
        edges = edges_written(parts[1:])
        try:
            web = cls(marks, edges)
        except (InvalidName, InvalidEdge):
            raise ParseError() from None
        # Another order, or something that stands there twice, only shows when the web is written again.
        if web.text() != text:
            raise ParseError()
        return web

    @property
    def parity(self):
        """The number of odd nodes modulo 2."""
        return sum([self.marks[node] for node in self.marks]) % 2

    def check_node(self, node):
        """Raises UnknownNode if the web does not have this node."""
        if node not in self.marks:
            raise UnknownNode(node)

    def check_edge(self, edge):
        """Raises UnknownEdge if the web does not have this edge."""
        if edge not in self.pairs:
            raise UnknownEdge(edge)

    def nodes(self):
        """The nodes, ascending."""
        return list(self.marks)

    def edges(self):
        """The names of the edges, ascending."""
        return list(self.pairs)

    def mark(self, node):
        """The mark of a node. Raises UnknownNode."""
        self.check_node(node)
        return self.marks[node]

    def edges_of(self, node):
        """The text of the edges of a node, ascending. Raises UnknownNode."""
        self.check_node(node)
        return self.stars[node]

    def component_of(self, node):
        """The component that contains a node. Raises UnknownNode."""
        self.check_node(node)
        reached = {node: True}
        waiting = [node]
        while waiting:
            here = waiting.pop()
            for edge in self.stars[here]:
                there = other_end(self.pairs[edge], here)
                if there not in reached:
                    reached[there] = True
                    waiting.append(there)
        return tuple(sorted(reached))

    def is_odd(self, node):
        """Whether the component of a node is odd. Raises UnknownNode."""
        return sum([self.marks[member] for member in self.component_of(node)]) % 2 == 1

    def ends(self, edge):
        """The pair of the ends, the lesser one first. Raises UnknownEdge."""
        self.check_edge(edge)
        return self.pairs[edge]

    def touch(self, one, other):
        """Whether two edges share an end. Raises UnknownEdge."""
        self.check_edge(one)
        self.check_edge(other)
        first, second = self.pairs[one]
        return first in self.pairs[other] or second in self.pairs[other]

    def components(self):
        """All components, ascending."""
        found = []
        for node in self.marks:
            component = self.component_of(node)
            if component[0] == node:
                found.append(component)
        return found

    def notes(self):
        """The notes of all strangers, ascending."""
        names = self.edges()
        return [one + other for one in names for other in names if one < other and not self.touch(one, other)]

    def text(self):
        """The text of the web."""
        nodes = [f"{node}*" if self.marks[node] == 1 else f"{node}" for node in self.marks]
        edges = [f"{name} {self.pairs[name][0]} {self.pairs[name][1]}" for name in self.pairs]
        return "; ".join([" ".join(nodes)] + edges)

    def with_node(self, node, *, mark=0):
        """The web with one more bare node. Raises InvalidNode, NodeTaken, InvalidMark."""
        if not is_node(node):
            raise InvalidNode(node)
        if node in self.marks:
            raise NodeTaken(node)
        if not is_mark(mark):
            raise InvalidMark(node)
        return Web({**self.marks, node: mark}, self.pairs)

    def without_node(self, node):
        """The web without a bare node. Raises UnknownNode, NotBare."""
        self.check_node(node)
        if self.stars[node] != "":
            raise NotBare(node)
        return Web({kept: self.marks[kept] for kept in self.marks if kept != node}, self.pairs)

    def turned(self, node):
        """The web with the other mark of a node. Raises UnknownNode."""
        self.check_node(node)
        return Web({**self.marks, node: 1 - self.marks[node]}, self.pairs)

    def with_edge(self, edge, one, other):
        """The web with one more edge. Raises InvalidName, EdgeTaken, UnknownNode, InvalidEdge."""
        if not is_name(edge):
            raise InvalidName(edge)
        if edge in self.pairs:
            raise EdgeTaken(edge)
        self.check_node(one)
        self.check_node(other)
        if one == other:
            raise InvalidEdge(edge)
        return Web(self.marks, {**self.pairs, edge: (one, other)})

    def cut(self, edge):
        """The web without an edge. Raises UnknownEdge."""
        self.check_edge(edge)
        return Web(self.marks, {name: self.pairs[name] for name in self.pairs if name != edge})

    def contracted(self, edge):
        """The web in which one node, the lesser one, stands for both ends of an edge. Raises UnknownEdge."""
        self.check_edge(edge)
        lesser, greater = self.pairs[edge]
        marks = {node: self.marks[node] for node in self.marks if node != greater}
        marks[lesser] = (self.marks[lesser] + self.marks[greater]) % 2
        pairs = {}
        for name in self.pairs:
            if self.pairs[name] != self.pairs[edge]:
                pairs[name] = tuple([lesser if end == greater else end for end in self.pairs[name]])
        return Web(marks, pairs)
