import itertools
import math
import random
import time
import unittest

from samples import NAMES, component, many_parts, shuffled, star
from shapes import (
    QUICKLY, Maker, barred_parts, flat, flat_parts, full_flat_parts, full_parts, is_drawing, joined_nodes, mixed_parts,
)
from threadmark.barriers import find_barrier
from threadmark.drawings import is_flat
from threadmark.layouts import blocks, find_drawing
from threadmark.webs import Web


def linked(edges, gone, one, other):
    """Whether paths lead from one edge to the other without a node."""
    reached = {end for end in edges[one] if end != gone}
    while True:
        more = {end for pair in edges.values() if gone not in pair and reached & set(pair) for end in pair}
        if more <= reached:
            return bool(reached & set(edges[other]))
        reached |= more


def model_blocks(parts):
    """The blocks by removing each node and searching for paths."""
    edges = parts[1]
    found = []
    for one in sorted(edges):
        same = [
            other for other in sorted(edges)
            if edges[other][0] in component(parts, edges[one][0])
            and all(linked(edges, gone, one, other) for gone in parts[0])
        ]
        if one == same[0]:
            found.append("".join(same))
    return sorted(found)


def all_drawings(parts):
    """All drawings, with the least edge of each node first."""
    nodes = joined_nodes(parts)
    rows = [[star(parts, node)[0] + "".join(rest) for rest in itertools.permutations(star(parts, node)[1:])]
            for node in nodes]
    for orders in itertools.product(*rows):
        yield dict(zip(nodes, orders))


def divided(rng, parts):
    """The web with a node in the middle of an edge."""
    marks, edges = parts
    name = rng.choice(sorted(edges))
    node = rng.choice([free for free in range(12) if free not in marks])
    fresh = rng.choice([free for free in NAMES if free not in edges])
    one, other = edges[name]
    return {**marks, node: rng.randint(0, 1)}, {**edges, name: (one, node), fresh: (node, other)}


def with_parallel(rng, parts):
    """The web with an edge beside another one."""
    marks, edges = parts
    fresh = rng.choice([free for free in NAMES if free not in edges])
    return marks, {**edges, fresh: edges[rng.choice(sorted(edges))][::-1]}


def with_leaf(rng, parts):
    """The web with a new node at a new edge."""
    marks, edges = parts
    node = rng.choice([free for free in range(12) if free not in marks])
    fresh = rng.choice([free for free in NAMES if free not in edges])
    return {**marks, node: 0}, {**edges, fresh: (rng.choice(sorted(marks)), node)}


class BlocksTest(unittest.TestCase):
    def test_blocks(self):
        rng = random.Random(211)
        several = 0
        for parts in many_parts(250, 212, 9, 10) + [flat_parts(rng, 9, 10) for at in range(100)]:
            expected = model_blocks(parts)
            several += len(expected) > 1
            self.assertEqual(expected, blocks(Web(*parts)))
            self.assertEqual(expected, blocks(Web(*shuffled(rng, parts))))
        self.assertLess(50, several)

    def test_chains_of_rings(self):
        rng = random.Random(213)
        for count in range(100):
            maker = Maker(rng, 9, 10)
            while maker.spare(3, 3):
                near = rng.choice(sorted(maker.marks)) if maker.marks and rng.random() < 0.8 else maker.node()
                maker.path(near, near, rng.randint(1, 2))
            while rng.random() < 0.5:
                rng.choice([maker.leaf, maker.parallel])()
            parts = maker.parts()
            self.assertEqual(model_blocks(parts), blocks(Web(*parts)))

    def test_known_blocks(self):
        self.assertEqual([], blocks(Web.empty()))
        self.assertEqual([], blocks(Web({0: 0, 5: 1}, {})))
        self.assertEqual(["x"], blocks(Web({0: 0, 5: 1}, {"x": (0, 5)})))
        self.assertEqual(["ab"], blocks(Web({0: 0, 5: 1}, {"b": (0, 5), "a": (5, 0)})))
        path = Web({0: 0, 1: 0, 2: 0}, {"b": (0, 1), "a": (1, 2)})
        self.assertEqual(["a", "b"], blocks(path))
        bow = Web({node: 0 for node in range(5)}, {
            "a": (0, 1), "f": (1, 2), "c": (0, 2), "d": (2, 3), "e": (3, 4), "b": (2, 4),
        })
        self.assertEqual(["acf", "bde"], blocks(bow))
        apart = Web({node: 0 for node in range(6)}, {"b": (0, 1), "c": (1, 0), "a": (2, 3), "d": (4, 5)})
        self.assertEqual(["a", "bc", "d"], blocks(apart))
        self.assertEqual(["abcdefghijklmnopqrstu"], blocks(Web.complete(7)))

    def test_returned_lists_are_new(self):
        web = Web.complete(3)
        first = blocks(web)
        first.append("x")
        self.assertEqual(["abc"], blocks(web))


class FindDrawingTest(unittest.TestCase):
    def check_flat(self, parts):
        web = Web(*parts)
        drawing = find_drawing(web)
        self.assertEqual(dict, drawing.__class__)
        self.assertTrue(is_drawing(parts, drawing))
        self.assertTrue(flat(parts, drawing))
        self.assertIs(True, is_flat(web, drawing))
        self.assertIsNone(find_barrier(web))

    def test_webs_from_faces(self):
        rng = random.Random(214)
        for count in range(400):
            self.check_flat(flat_parts(rng, rng.randint(2, 12), rng.randint(8, 24)))

    def test_largest_webs_from_faces(self):
        rng = random.Random(215)
        for count in range(60):
            parts = full_flat_parts(rng)
            self.assertEqual((12, 24), (len(parts[0]), len(parts[1])))
            started = time.monotonic()
            self.check_flat(parts)
            self.assertLess(time.monotonic() - started, QUICKLY)

    def test_largest_webs_of_any_kind_end_quickly(self):
        rng = random.Random(216)
        for count in range(60):
            web = Web(*full_parts(rng))
            started = time.monotonic()
            self.assertIsNot(find_drawing(web) is None, find_barrier(web) is None)
            self.assertLess(time.monotonic() - started, QUICKLY)

    def test_by_trying_all_drawings(self):
        rng = random.Random(217)
        seen = {True: 0, False: 0}
        webs = many_parts(120, 218, 6, 9)
        webs += [barred_parts(rng, False)[0] for at in range(8)]
        for parts in webs:
            if math.prod(math.factorial(len(star(parts, node)) - 1) for node in joined_nodes(parts)) > 8000:
                continue
            expected = any(flat(parts, drawing) for drawing in all_drawings(parts))
            seen[expected] += 1
            self.assertIs(expected, find_drawing(Web(*parts)) is not None)
        self.assertLess(100, seen[True])
        self.assertLess(2, seen[False])

    def test_known_webs(self):
        for count in range(8):
            self.assertIs(count < 5, find_drawing(Web.complete(count)) is not None)
        for first, second, expected in [(2, 10, True), (10, 2, True), (3, 3, False), (3, 8, False), (1, 11, True)]:
            self.assertIs(expected, find_drawing(Web.bipartite(first, second)) is not None)
        self.assertEqual({}, find_drawing(Web({2: 1, 7: 0}, {})))
        self.assertEqual({2: "a", 7: "a"}, find_drawing(Web({2: 1, 7: 0, 9: 1}, {"a": (7, 2)})))
        parallel = {name: (0, 1) for name in NAMES}
        self.check_flat(({0: 0, 1: 0}, parallel))

    def test_one_component_without_a_flat_drawing(self):
        web = Web.complete(5).with_node(5).with_node(6).with_edge("x", 5, 6)
        self.assertIsNone(find_drawing(web))
        self.assertIsNotNone(find_drawing(web.cut("a")))

    def test_equal_webs_give_equal_drawings(self):
        rng = random.Random(219)
        for count in range(100):
            parts = mixed_parts(rng)
            first = find_drawing(Web(*parts))
            kept = None if first is None else dict(first)
            if first is not None:
                first.clear()
            self.assertEqual(kept, find_drawing(Web(*parts)))
            self.assertEqual(kept, find_drawing(Web(*shuffled(rng, parts))))
            web = Web(*parts)
            text = web.text()
            self.assertEqual(kept, find_drawing(web))
            self.assertEqual(kept, find_drawing(web))
            self.assertEqual(text, web.text())


class ChangedWebsTest(unittest.TestCase):
    def test_cutting_and_contracting_keep_a_flat_drawing(self):
        rng = random.Random(220)
        for count in range(60):
            web = Web(*flat_parts(rng))
            for edge in web.edges():
                for changed in (web.cut(edge), web.contracted(edge)):
                    self.assertIs(True, is_flat(changed, find_drawing(changed)))
                    self.assertIsNone(find_barrier(changed))

    def test_growing_keeps_whether_there_is_one(self):
        rng = random.Random(221)
        seen = {True: 0, False: 0}
        for count in range(150):
            parts = mixed_parts(rng)
            while len(parts[1]) > 23 or len(parts[0]) > 11 or not parts[1]:
                parts = mixed_parts(rng)
            expected = find_drawing(Web(*parts)) is None
            seen[expected] += 1
            for grown in (divided(rng, parts), with_parallel(rng, parts), with_leaf(rng, parts)):
                self.assertIs(expected, find_drawing(Web(*grown)) is None)
                self.assertIs(expected, find_barrier(Web(*grown)) is not None)
        self.assertLess(30, min(seen.values()))


if __name__ == "__main__":
    unittest.main()
