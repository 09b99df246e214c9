import itertools
import random
import time
import unittest

from counting import alone, is_odd
from samples import component, many_parts, raised, shuffled
from shapes import QUICKLY, flat, full_flat_parts, full_parts, is_barrier, mixed_parts, several_parts
from threadmark.barriers import find_barrier
from threadmark.derivations import derivation_of, find_derivation
from threadmark.errors import UnknownNode
from threadmark.layouts import find_drawing
from threadmark.steps import is_derivation
from threadmark.tables import holds
from threadmark.webs import Web

STRINGS = [sign + letter for sign in ("", "-") for letter in "1XZW"]


def webs(count, seed):
    """Webs of many kinds."""
    rng = random.Random(seed)
    found = many_parts(count, seed)
    for at in range(count):
        found += [mixed_parts(rng), several_parts(rng)]
    return found


def used(steps):
    """The nodes and the edges that steps name."""
    nodes = set()
    edges = set()
    for step in steps:
        match step[0]:
            case "insert":
                edges.add(step[2])
            case "spread" | "gather":
                nodes.add(step[2])
                edges |= set(step[3])
            case "flip":
                nodes.add(step[1])
    return nodes, edges


class DerivationTest(unittest.TestCase):
    def check_steps(self, web, steps):
        self.assertEqual(list, steps.__class__)
        self.assertEqual({tuple}, {step.__class__ for step in steps})
        self.assertIs(True, is_derivation(web, steps))

    def has_flat_drawing(self, parts):
        """Whether a web has a flat drawing, by a drawing or a barrier that shows it."""
        web = Web(*parts)
        drawing = find_drawing(web)
        if drawing is None:
            self.assertTrue(is_barrier(parts, find_barrier(web)))
        else:
            self.assertTrue(flat(parts, drawing))
        return drawing is not None

    def check_node(self, parts, node):
        """Checks the derivation of a node; returns whether there is one."""
        web = Web(*parts)
        steps = derivation_of(web, node)
        expected = is_odd(parts, node) and self.has_flat_drawing(alone(parts, node))
        self.assertIs(expected, steps is not None)
        if expected:
            self.check_steps(web, steps)
            nodes, edges = used(steps)
            self.assertLessEqual(nodes, set(component(parts, node)))
            self.assertLessEqual(edges, set(alone(parts, node)[1]))
        return expected

    def test_each_node(self):
        seen = {}
        for parts in webs(120, 301):
            answers = [self.check_node(parts, node) for node in parts[0]]
            steps = find_derivation(Web(*parts))
            self.assertIs(any(answers), steps is not None)
            if steps is not None:
                self.check_steps(Web(*parts), steps)
            kind = (any(answers), all(answers), any(is_odd(parts, node) for node in parts[0]))
            seen[kind] = seen.get(kind, 0) + 1
        # Some and all nodes with a derivation, none though some component is odd, and none because none is.
        for kind in ((True, False, True), (True, True, True), (False, False, True), (False, False, False)):
            self.assertLess(10, seen[kind], seen)

    def test_bare_nodes(self):
        web = Web({2: 1, 5: 0, 7: 0, 8: 1}, {"a": (7, 8)})
        self.assertEqual([("flip", 2)], derivation_of(web, 2))
        self.assertIsNone(derivation_of(web, 5))
        self.check_steps(web, derivation_of(web, 7))
        self.check_steps(web, derivation_of(web, 8))
        self.assertIsNone(find_derivation(Web({5: 0}, {})))
        self.assertEqual([("flip", 5)], find_derivation(Web({5: 1, 3: 0}, {})))
        self.assertIsNone(find_derivation(Web.empty()))

    def test_known_webs(self):
        for count in range(1, 8):
            web = Web.complete(count, odd=[count - 1])
            self.assertIs(count < 5, find_derivation(web) is not None)
            self.assertIs(count < 5, derivation_of(web, 0) is not None)
            self.assertIsNone(find_derivation(Web.complete(count)))
        self.assertIsNone(find_derivation(Web.bipartite(3, 3, odd=[2])))
        self.assertIsNotNone(find_derivation(Web.bipartite(2, 10, odd=[2])))
        # The odd component has a barrier, the flat one is even.
        web = Web.complete(5, odd=[0]).with_node(7, mark=1).with_node(9, mark=1).with_edge("x", 7, 9)
        self.assertIsNone(find_derivation(web))
        self.assertIsNotNone(find_derivation(web.turned(9)))
        self.assertIsNotNone(find_derivation(web.cut("x")))
        self.assertIsNotNone(find_derivation(web.cut("a")))

    def test_unknown_nodes(self):
        web = Web({0: 1, 3: 1}, {})
        for node in (1, 11, 12, -1, 10 ** 29, -10 ** 29):
            raised(self, UnknownNode, lambda: derivation_of(web, node), node)
        raised(self, UnknownNode, lambda: derivation_of(Web.empty(), 0), 0)

    def test_largest_webs_end_quickly(self):
        rng = random.Random(302)
        for count in range(60):
            parts = full_flat_parts(rng) if count % 2 else full_parts(rng)
            web = Web(*parts)
            started = time.monotonic()
            steps = find_derivation(web)
            self.assertLess(time.monotonic() - started, QUICKLY)
            if steps is not None:
                self.check_steps(web, steps)
            elif count % 2:
                self.assertEqual(0, web.parity)

    def test_equal_webs_give_equal_derivations(self):
        rng = random.Random(303)
        for parts in webs(30, 304):
            web = Web(*parts)
            text = web.text()
            first = find_derivation(web)
            kept = None if first is None else list(first)
            if first is not None:
                first.clear()
            self.assertEqual(kept, find_derivation(web))
            twin = Web(*shuffled(rng, parts))
            self.assertEqual(kept, find_derivation(twin))
            for node in parts[0]:
                steps = derivation_of(web, node)
                self.assertEqual(steps, derivation_of(twin, node))
                self.assertTrue(steps is None or steps is not derivation_of(web, node))
            self.assertEqual(text, web.text())


class NoTableTest(unittest.TestCase):
    def holding_tables(self, web):
        """How many tables of strings of one letter hold."""
        names = web.edges()
        rows = itertools.product(STRINGS, repeat=len(names))
        return sum(holds(web, dict(zip(names, strings))) for strings in rows)

    def test_no_table_holds_beside_a_derivation(self):
        tried = {True: 0, False: 0}
        for parts in many_parts(150, 305, 5, 4):
            web = Web(*parts)
            derived = find_derivation(web) is not None
            tried[derived] += 1
            # Webs of this size are flat, so they have a derivation or a table of signs only.
            self.assertIs(derived, self.holding_tables(web) == 0)
        self.assertLess(30, min(tried.values()), tried)


if __name__ == "__main__":
    unittest.main()
