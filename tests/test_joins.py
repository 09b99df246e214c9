import itertools
import random
import unittest

from samples import many_parts, shuffled, star
from threadmark.joins import edge_join, node_sum, odd_cycle
from threadmark.webs import Web


def subsets(things):
    for size in range(len(things) + 1):
        yield from itertools.combinations(things, size)


def odd_nodes(parts, chosen):
    """The nodes with an odd number of the chosen edges."""
    return [node for node in sorted(parts[0]) if sum(name in chosen for name in star(parts, node)) % 2 == 1]


def crossing(parts, nodes):
    """The edges with one end among the nodes."""
    return "".join(name for name in sorted(parts[1]) if sum(end in nodes for end in parts[1][name]) == 1)


class JoinsTest(unittest.TestCase):
    def is_text(self, parts, text):
        self.assertEqual(str, text.__class__)
        self.assertEqual(sorted(set(text)), list(text))
        self.assertLessEqual(set(text), set(parts[1]))

    def check_join(self, parts, nodes):
        web = Web(*parts)
        text = edge_join(web, nodes)
        uneven = any(sum(node in nodes for node in component) % 2 for component in web.components())
        if uneven:
            self.assertIsNone(text)
        else:
            self.is_text(parts, text)
            self.assertEqual(sorted(nodes), odd_nodes(parts, text))

    def check_cycle(self, parts, names, found):
        text = odd_cycle(Web(*parts), names)
        self.assertIs(found, text is not None)
        if found:
            self.is_text(parts, text)
            self.assertEqual([], odd_nodes(parts, text))
            self.assertEqual(1, sum(name in names for name in text) % 2)

    def check_sum(self, parts, names, found):
        nodes = node_sum(Web(*parts), names)
        self.assertIs(found, nodes is not None)
        if found:
            self.assertEqual(list, nodes.__class__)
            self.assertEqual(sorted(set(nodes)), nodes)
            self.assertLessEqual(set(nodes), set(parts[0]))
            self.assertEqual("".join(sorted(names)), crossing(parts, nodes))

    def test_edge_join_of_all_lists(self):
        for parts in many_parts(80, 91, 6, 9):
            for nodes in subsets(sorted(parts[0])):
                self.check_join(parts, list(nodes))
                self.check_join(parts, nodes[::-1])

    def test_edge_join_of_large_webs(self):
        rng = random.Random(92)
        for parts in many_parts(300, 93):
            for count in range(10):
                self.check_join(parts, rng.sample(sorted(parts[0]), rng.randint(0, len(parts[0]))))

    def test_cycles_and_sums_by_trying(self):
        for parts in many_parts(60, 94, 6, 7):
            cycles = [chosen for chosen in subsets(sorted(parts[1])) if not odd_nodes(parts, chosen)]
            sums = {crossing(parts, nodes) for nodes in subsets(sorted(parts[0]))}
            for chosen in subsets(sorted(parts[1])):
                names = "".join(chosen)
                odd = any(sum(name in names for name in cycle) % 2 for cycle in cycles)
                self.check_cycle(parts, names, odd)
                self.check_cycle(parts, names[::-1], odd)
                self.check_sum(parts, names, names in sums)
                self.check_sum(parts, names[::-1], names in sums)

    def test_cycles_and_sums_of_large_webs(self):
        rng = random.Random(95)
        for parts in many_parts(200, 96):
            for count in range(10):
                names = "".join(rng.sample(sorted(parts[1]), rng.randint(0, len(parts[1]))))
                # Exactly one of the two exists.
                found = node_sum(Web(*parts), names) is None
                self.check_cycle(parts, names, found)
                self.check_sum(parts, names, not found)
                nodes = rng.sample(sorted(parts[0]), rng.randint(0, len(parts[0])))
                self.check_sum(parts, crossing(parts, nodes), True)

    def test_known(self):
        parallel = Web({3: 0, 7: 1}, {"c": (3, 7), "a": (7, 3)})
        self.assertEqual("ac", odd_cycle(parallel, "a"))
        self.assertEqual("ac", odd_cycle(parallel, "c"))
        self.assertIsNone(odd_cycle(parallel, "ac"))
        self.assertIsNone(odd_cycle(parallel, ""))
        self.assertIsNone(node_sum(parallel, "a"))
        self.assertIn(node_sum(parallel, "ca"), ([3], [7]))
        self.assertIn(edge_join(parallel, (7, 3)), ("a", "c"))
        self.assertIsNone(edge_join(parallel, [7]))
        bare = Web({2: 1, 5: 0}, {})
        self.assertEqual("", edge_join(bare, []))
        self.assertIsNone(edge_join(bare, [2]))
        self.assertIsNone(edge_join(bare, [2, 5]))
        self.assertIsNone(odd_cycle(bare, ""))
        self.assertEqual(0, len(crossing(({2: 1, 5: 0}, {}), node_sum(bare, ""))))
        self.assertEqual(["", None, []], [edge_join(Web.empty(), []), odd_cycle(Web.empty(), ""),
                                          node_sum(Web.empty(), "")])
        path = Web({0: 0, 1: 0, 2: 0}, {"b": (0, 1), "a": (1, 2)})
        self.assertEqual(["ab", "b", "a"], [edge_join(path, nodes) for nodes in ([2, 0], [1, 0], [1, 2])])
        self.assertIn(node_sum(path, "ba"), ([1], [0, 2]))
        self.assertIn(node_sum(path, "b"), ([0], [1, 2]))

    def test_equal_webs_give_equal_results(self):
        rng = random.Random(97)
        for parts in many_parts(100, 98):
            twin = Web(*shuffled(rng, parts))
            web = Web(*parts)
            text = web.text()
            nodes = rng.sample(sorted(parts[0]), rng.randint(0, len(parts[0])))
            names = "".join(rng.sample(sorted(parts[1]), rng.randint(0, len(parts[1]))))
            kept = list(nodes)
            for count in range(2):
                self.assertEqual(edge_join(web, nodes), edge_join(twin, nodes))
                self.assertEqual(odd_cycle(web, names), odd_cycle(twin, names))
                self.assertEqual(node_sum(web, names), node_sum(twin, names))
            self.assertEqual(kept, nodes)
            self.assertEqual(text, web.text())

    def test_returned_lists_are_new(self):
        web = Web.complete(4)
        first = node_sum(web, "abc")
        kept = list(first)
        first.append(9)
        self.assertEqual(kept, node_sum(web, "abc"))


if __name__ == "__main__":
    unittest.main()
