import random
import unittest

from faults import first_fault
from samples import many_parts, raised, split, star
from shapes import evened, kinds_of_parts
from smaller import contracted_parts, cut_parts
from threadmark.carry import restore_contraction, restore_cut
from threadmark.errors import UnknownEdge
from threadmark.realizations import find_table
from threadmark.strings import multiply
from threadmark.webs import Web


def ones(table):
    """The string of ones that is as long as the strings of a table."""
    return "1" * max([len(split(text)[1]) for text in table.values()], default=0)


def restored_cut(parts, table, edge):
    """The table with ones for the edge."""
    return {**table, edge: ones(table)}


def restored_contraction(parts, table, edge):
    """The table with ones for parallel edges, and for the edge the product at its lesser end."""
    marks, edges = parts
    low, high = sorted(edges[edge])
    others = [name for name in star(parts, low) if name in table]
    full = {name: table.get(name, ones(table)) for name in edges}
    full[edge] = multiply(("-" if marks[low] else "") + ones(table), *[table[name] for name in others])
    return full


CHANGES = (
    (restore_cut, restored_cut, cut_parts),
    (restore_contraction, restored_contraction, contracted_parts),
)


class RestoreTest(unittest.TestCase):
    def check(self, parts, edge, restore, expected, smaller):
        """Checks the restored table of an edge, if the smaller web has a table; returns whether it has one."""
        web = Web(*parts)
        table = find_table(Web(*smaller(parts, edge)))
        if table is None:
            return False
        kept = list(table.items())
        found = restore(web, table, edge)
        self.assertEqual(dict, found.__class__)
        self.assertEqual(expected(parts, table, edge), found)
        self.assertIsNone(first_fault(parts, found))
        self.assertEqual(kept, list(table.items()))
        # A web has a table if a smaller one has.
        self.assertIsNotNone(find_table(web))
        return True

    def test_each_edge(self):
        restored = {restore_cut: 0, restore_contraction: 0}
        for parts in kinds_of_parts(50, 481) + many_parts(40, 482, 5, 9):
            for some in (parts, evened(parts)):
                for edge in some[1]:
                    for restore, expected, smaller in CHANGES:
                        restored[restore] += self.check(some, edge, restore, expected, smaller)
        self.assertLess(500, min(restored.values()), restored)

    def test_kinds_of_edges(self):
        rng = random.Random(483)
        seen = {"parallel": 0, "odd lesser end": 0, "alone at its lesser end": 0, "alone at both": 0}
        for parts in kinds_of_parts(60, 484):
            marks, edges = parts
            # The signs of some edges make a table of signs, so that odd ends are frequent.
            turned = {name for name in edges if rng.randint(0, 1)}
            marks = {node: sum(name in turned for name in star(parts, node)) % 2 for node in marks}
            for edge in edges:
                done = self.check((marks, edges), edge, *CHANGES[1])
                low, high = sorted(edges[edge])
                kinds = {
                    "parallel": sum(set(pair) == {low, high} for pair in edges.values()) > 1,
                    "odd lesser end": marks[low] == 1,
                    "alone at its lesser end": star(parts, low) == edge,
                    "alone at both": star(parts, low) == star(parts, high) == edge,
                }
                for kind in kinds:
                    seen[kind] += done and kinds[kind]
        self.assertLess(4, min(seen.values()), seen)

    def test_known_tables(self):
        pair = Web({0: 1, 1: 1}, {"a": (0, 1)})
        self.assertEqual({"a": "-"}, restore_contraction(pair, {}, "a"))
        even = Web({0: 0, 1: 0}, {"a": (0, 1)})
        self.assertEqual({"a": ""}, restore_contraction(even, {}, "a"))
        self.assertEqual({"a": ""}, restore_cut(even, {}, "a"))
        # b and d join 0 and 2, and c is alone at the node 5.
        web = Web({0: 1, 2: 0, 5: 1}, {"b": (0, 2), "d": (2, 0), "c": (5, 2)})
        self.assertEqual({"b": "-11", "c": "-11", "d": "11"}, restore_contraction(web, {"c": "-11"}, "b"))
        self.assertEqual({"b": "11", "c": "-11", "d": "-11"}, restore_contraction(web, {"c": "-11"}, "d"))
        self.assertEqual({"b": "X", "c": "-1", "d": "-X"}, restore_contraction(web, {"b": "X", "d": "-X"}, "c"))
        self.assertEqual({"b": "-X", "c": "-1", "d": "X"}, restore_contraction(web, {"b": "-X", "d": "X"}, "c"))
        self.assertEqual({"b": "1", "c": "-1", "d": "-1"}, restore_cut(web, {"c": "-1", "d": "-1"}, "b"))

    def test_unknown_edges(self):
        for web in (Web.empty(), Web({3: 0}, {}), Web.complete(3)):
            for edge in ("d", "", "ab", "-", "A", "y"):
                for restore in (restore_cut, restore_contraction):
                    raised(self, UnknownEdge, lambda: restore(web, {}, edge), edge)
                    raised(self, UnknownEdge, lambda: restore(web, {"a": "1"}, edge), edge)


if __name__ == "__main__":
    unittest.main()
