import itertools
import random
import unittest

from samples import many_parts, raised
from threadmark.errors import (
    EdgeTaken,
    InvalidEdge,
    InvalidMark,
    InvalidName,
    InvalidNode,
    NodeTaken,
    NotBare,
    UnknownEdge,
    UnknownNode,
)
from threadmark.webs import Web

WRONG_NAMES = ("", "y", "z", "A", "ab", "-", " ")


def cut_parts(parts, edge):
    marks, edges = parts
    return dict(marks), {name: edges[name] for name in edges if name != edge}


def contracted_parts(parts, edge):
    marks, edges = parts
    low, high = min(edges[edge]), max(edges[edge])
    kept = {name: pair for name, pair in edges.items() if set(pair) != {low, high}}
    moved = {name: tuple(low if end == high else end for end in pair) for name, pair in kept.items()}
    joined = {node: marks[node] for node in marks if node != high}
    joined[low] = marks[low] ^ marks[high]
    return joined, moved


class ChangesTest(unittest.TestCase):
    def setUp(self):
        self.web = Web({0: 1, 1: 0, 5: 1, 7: 0}, {"b": (5, 0), "a": (0, 1), "c": (0, 1)})
        self.text = self.web.text()

    def tearDown(self):
        self.assertEqual(self.text, self.web.text())

    def test_with_node(self):
        self.assertEqual("0* 1 2 5* 7; a 0 1; b 0 5; c 0 1", self.web.with_node(2).text())
        self.assertEqual("0* 1 5* 7 11*; a 0 1; b 0 5; c 0 1", self.web.with_node(11, mark=1).text())
        self.assertEqual(Web({3: 0}, {}), Web.empty().with_node(3, mark=0))
        for parts in many_parts(60, 21):
            for node in range(12):
                for mark in (0, 1):
                    web = Web(*parts)
                    if node in parts[0]:
                        raised(self, NodeTaken, lambda: web.with_node(node, mark=mark), node)
                    else:
                        self.assertEqual(Web({**parts[0], node: mark}, parts[1]), web.with_node(node, mark=mark))
                    self.assertEqual(Web(*parts), web)

    def test_with_node_errors_in_order(self):
        for node in (-1, 12, 10 ** 29):
            for mark in (0, 2):
                raised(self, InvalidNode, lambda: self.web.with_node(node, mark=mark), node)
        for mark in (0, 1, 2, -1):
            raised(self, NodeTaken, lambda: self.web.with_node(5, mark=mark), 5)
        for mark in (2, -1, 10 ** 29):
            raised(self, InvalidMark, lambda: self.web.with_node(6, mark=mark), 6)

    def test_without_node(self):
        self.assertEqual("0* 1 5*; a 0 1; b 0 5; c 0 1", self.web.without_node(7).text())
        for node in (-1, 2, 12, 10 ** 29):
            raised(self, UnknownNode, lambda: self.web.without_node(node), node)
        for node in (0, 1, 5):
            raised(self, NotBare, lambda: self.web.without_node(node), node)
        for marks, edges in many_parts(60, 22):
            for node in range(12):
                if node not in marks:
                    web = Web({**marks, node: 1}, edges)
                    self.assertEqual(Web(marks, edges), web.without_node(node))
                    self.assertEqual(Web({**marks, node: 1}, edges), web)

    def test_turned(self):
        self.assertEqual("0* 1 5 7; a 0 1; b 0 5; c 0 1", self.web.turned(5).text())
        self.assertEqual("0* 1 5* 7*; a 0 1; b 0 5; c 0 1", self.web.turned(7).text())
        self.assertEqual(self.web, self.web.turned(0).turned(0))
        for node in (-1, 2, 12, 10 ** 29):
            raised(self, UnknownNode, lambda: self.web.turned(node), node)
        for marks, edges in many_parts(60, 23):
            for node in marks:
                self.assertEqual(Web({**marks, node: 1 - marks[node]}, edges), Web(marks, edges).turned(node))

    def test_with_edge(self):
        self.assertEqual("0* 1 5* 7; a 0 1; b 0 5; c 0 1; x 1 7", self.web.with_edge("x", 7, 1).text())
        self.assertEqual("0* 1 5* 7; a 0 1; b 0 5; c 0 1; d 0 1", self.web.with_edge("d", 0, 1).text())
        rng = random.Random(24)
        for marks, edges in many_parts(60, 25):
            for name in "abcdefghijklmnopqrstuvwx":
                if len(marks) > 1 and name not in edges:
                    pair = tuple(rng.sample(list(marks), 2))
                    web = Web(marks, edges)
                    self.assertEqual(Web(marks, {**edges, name: pair}), web.with_edge(name, *pair))
                    self.assertEqual(Web(marks, edges), web)

    def test_with_edge_errors_in_order(self):
        for name in WRONG_NAMES:
            raised(self, InvalidName, lambda: self.web.with_edge(name, 2, 2), name)
            raised(self, InvalidName, lambda: self.web.with_edge(name, 0, 1), name)
        for name in "abc":
            raised(self, EdgeTaken, lambda: self.web.with_edge(name, 2, 3), name)
            raised(self, EdgeTaken, lambda: self.web.with_edge(name, 0, 0), name)
        for node in (2, -1, 12, 10 ** 29):
            raised(self, UnknownNode, lambda: self.web.with_edge("d", node, 3), node)
            raised(self, UnknownNode, lambda: self.web.with_edge("d", 3, node), 3)
            raised(self, UnknownNode, lambda: self.web.with_edge("d", 0, node), node)
            raised(self, UnknownNode, lambda: self.web.with_edge("d", node, node), node)
        for node in (0, 7):
            raised(self, InvalidEdge, lambda: self.web.with_edge("d", node, node), "d")

    def test_mark_by_name_only(self):
        with self.assertRaises(TypeError):
            self.web.with_node(2, 1)


class CutAndContractTest(unittest.TestCase):
    def test_each_edge(self):
        for parts in many_parts(250, 26):
            web = Web(*parts)
            for edge in parts[1]:
                self.assertEqual(Web(*cut_parts(parts, edge)), web.cut(edge))
                self.assertEqual(Web(*contracted_parts(parts, edge)), web.contracted(edge))
            self.assertEqual(Web(*parts), web)

    def test_known_webs(self):
        web = Web({2: 1, 3: 1, 9: 1}, {"c": (9, 2), "a": (2, 3), "b": (3, 2), "d": (9, 3)})
        self.assertEqual("2 9*; c 2 9; d 2 9", web.contracted("a").text())
        self.assertEqual("2 9*; c 2 9; d 2 9", web.contracted("b").text())
        self.assertEqual("2 3*; a 2 3; b 2 3; d 2 3", web.contracted("c").text())
        self.assertEqual("2* 3; a 2 3; b 2 3; c 2 3", web.contracted("d").text())
        self.assertEqual("2* 3* 9*; b 2 3; c 2 9; d 3 9", web.cut("a").text())
        self.assertEqual("4*", Web({4: 1, 6: 0}, {"k": (6, 4)}).contracted("k").text())
        self.assertEqual("4", Web({4: 1, 6: 1}, {"k": (6, 4)}).contracted("k").text())

    def test_unknown_edges(self):
        for web in (Web.empty(), Web.complete(3)):
            text = web.text()
            for edge in WRONG_NAMES + ("d",):
                raised(self, UnknownEdge, lambda: web.cut(edge), edge)
                raised(self, UnknownEdge, lambda: web.contracted(edge), edge)
            self.assertEqual(text, web.text())

    def test_two_edges_in_either_order(self):
        for marks, edges in many_parts(80, 27, 8, 10):
            web = Web(marks, edges)
            for one, other in itertools.permutations(edges, 2):
                self.assertEqual(web.cut(one).cut(other), web.cut(other).cut(one))
                if set(edges[one]) != set(edges[other]):
                    self.assertEqual(web.cut(one).contracted(other), web.contracted(other).cut(one))
                    self.assertEqual(web.contracted(one).contracted(other), web.contracted(other).contracted(one))

    def test_parallel_edges_go(self):
        web = Web({0: 1, 1: 1}, {"a": (0, 1), "b": (0, 1)})
        raised(self, UnknownEdge, lambda: web.contracted("a").cut("b"), "b")


if __name__ == "__main__":
    unittest.main()
