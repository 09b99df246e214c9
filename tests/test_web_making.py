import itertools
import random
import unittest

from samples import many_parts, raised, shuffled
from threadmark.errors import InvalidEdge, InvalidMark, InvalidName, InvalidNode, LimitExceeded
from threadmark.webs import Web

NAMES = "abcdefghijklmnopqrstuvwx"


def first_error(marks, edges):
    """The error that the document asks for, with its field; None if the dicts are a web."""
    wrong_nodes = [node for node in marks if node not in range(12)]
    wrong_marks = [node for node in marks if marks[node] not in range(2)]
    wrong_names = [name for name in edges if name not in list(NAMES)]
    wrong_edges = [name for name in edges if len(set(edges[name])) != 2 or not set(edges[name]) <= set(marks)]
    for error, wrong in (
        (InvalidNode, wrong_nodes),
        (InvalidMark, wrong_marks),
        (InvalidName, wrong_names),
        (InvalidEdge, wrong_edges),
    ):
        if wrong:
            return error, min(wrong)
    return None


class WrongDictsTest(unittest.TestCase):
    def check(self, marks, edges):
        kept = (list(marks.items()), list(edges.items()))
        expected = first_error(marks, edges)
        if expected is None:
            Web(marks, edges)
        else:
            raised(self, expected[0], lambda: Web(marks, edges), expected[1])
        self.assertEqual(kept, (list(marks.items()), list(edges.items())))

    def test_one_fault(self):
        for node in (-1, 12, 13, -10 ** 29, 10 ** 29):
            raised(self, InvalidNode, lambda: Web({node: 0}, {}), node)
            raised(self, InvalidNode, lambda: Web({3: 0, node: 1, 0: 0}, {"a": (0, 3)}), node)
        for mark in (-1, 2, 10 ** 29):
            raised(self, InvalidMark, lambda: Web({0: 0, 4: mark}, {}), 4)
        for name in ("", "y", "z", "A", "aa", "ab", "-", "1", " ", "\n", "abcdefghijklmnopqrstuvwx"):
            raised(self, InvalidName, lambda: Web({0: 0, 1: 0}, {name: (0, 1), "b": (0, 1)}), name)
        for pair in ((0, 0), (0, 2), (2, 0), (2, 3), (-1, 0), (12, 1), (2, 2)):
            raised(self, InvalidEdge, lambda: Web({0: 0, 1: 0}, {"a": (0, 1), "b": pair}), "b")

    def test_pairs_of_another_length(self):
        for pair in ((), (0,), (0, 1, 0), (0, 1, 1)):
            raised(self, InvalidEdge, lambda: Web({0: 0, 1: 0}, {"b": (0, 1), "a": pair}), "a")

    def test_least_fault_whatever_the_order(self):
        for nodes in itertools.permutations([13, -2, 12, 3]):
            raised(self, InvalidNode, lambda: Web({node: 5 for node in nodes}, {"A": (7, 7)}), -2)
        for nodes in itertools.permutations([9, 2, 10, 0]):
            marks = {node: 2 if node else 0 for node in nodes}
            raised(self, InvalidMark, lambda: Web(marks, {"A": (7, 7)}), 2)
        for names in itertools.permutations(["b", "z", "ab", "y"]):
            raised(self, InvalidName, lambda: Web({0: 0}, {name: (0, 0) for name in names}), "ab")
        for names in itertools.permutations(["x", "c", "b", "d"]):
            edges = {name: (0, 1) if name == "b" else (1, 1) for name in names}
            raised(self, InvalidEdge, lambda: Web({0: 0, 1: 0}, edges), "c")

    def test_several_faults_at_once(self):
        rng = random.Random(3)
        for count in range(4000):
            nodes = rng.sample([-1, 0, 1, 2, 3, 4, 5, 10, 11, 12, 13], rng.randint(0, 6))
            marks = {node: rng.choice([0, 1, 0, 1, 0, 1, 0, 1, 2, -1]) for node in nodes}
            names = rng.sample(["a", "b", "c", "w", "x", "y", "", "ab", "B", "-"], rng.randint(0, 4))
            edges = {name: (rng.choice(nodes + [0]), rng.choice(nodes + [1])) for name in names}
            self.check(marks, edges)

    def test_single_changes_of_webs(self):
        rng = random.Random(4)
        for marks, edges in many_parts(300, 5):
            self.check(marks, edges)
            if marks:
                node = rng.choice(list(marks))
                self.check({**marks, node: rng.choice([-1, 2])}, edges)
                self.check({other: marks[other] for other in marks if other != node}, edges)
            if edges:
                name = rng.choice(list(edges))
                self.check(marks, {**edges, name: (edges[name][0], edges[name][0])})
                self.check(marks, {**edges, name.upper(): edges[name]})


class CopiesTest(unittest.TestCase):
    def test_later_changes_of_the_dicts(self):
        marks = {0: 1, 1: 0, 2: 0}
        edges = {"b": (1, 0), "a": (2, 1)}
        web = Web(marks, edges)
        text = web.text()
        marks[0] = 0
        marks[5] = 1
        edges["c"] = (0, 5)
        del edges["a"]
        self.assertEqual(text, web.text())
        self.assertEqual([[0, 1, 2], ["a", "b"], 1], [web.nodes(), web.edges(), web.mark(0)])
        self.assertFalse("c" in web)

    def test_pairs_as_lists(self):
        pair = [1, 0]
        web = Web({0: 1, 1: 0}, {"a": pair})
        pair[0] = 7
        self.assertEqual((0, 1), web.ends("a"))


class EqualityTest(unittest.TestCase):
    def same(self, one, other):
        self.assertTrue(one == other)
        self.assertTrue(other == one)
        self.assertFalse(one != other)
        self.assertFalse(other != one)

    def differ(self, one, other):
        self.assertFalse(one == other)
        self.assertFalse(other == one)
        self.assertTrue(one != other)
        self.assertTrue(other != one)

    def test_equal_webs(self):
        rng = random.Random(6)
        for parts in many_parts(200, 7):
            web = Web(*parts)
            self.same(web, web)
            self.same(web, Web(*shuffled(rng, parts)))
            self.assertEqual(web.text(), Web(*shuffled(rng, parts)).text())

    def test_different_webs(self):
        rng = random.Random(8)
        for marks, edges in many_parts(200, 9):
            web = Web(marks, edges)
            free = [node for node in range(12) if node not in marks]
            if free:
                self.differ(web, Web({**marks, free[0]: 0}, edges))
            for node in marks:
                self.differ(web, Web({**marks, node: 1 - marks[node]}, edges))
            for name in edges:
                self.differ(web, Web(marks, {kept: edges[kept] for kept in edges if kept != name}))
                pair = tuple(rng.sample(list(marks), 2))
                if set(pair) != set(edges[name]):
                    self.differ(web, Web(marks, {**edges, name: pair}))

    def test_other_values(self):
        for web in (Web({}, {}), Web({0: 1, 1: 0}, {"a": (0, 1)})):
            for value in (None, 0, 1, "", web.text(), [], (), {}, web.nodes(), repr(web), object()):
                self.differ(web, value)


class CompleteTest(unittest.TestCase):
    def check(self, web, count, pairs, odd):
        marks = {node: 1 if node in odd else 0 for node in range(count)}
        self.assertEqual(Web(marks, dict(zip(NAMES, pairs))), web)
        self.assertEqual(len(pairs), len(web))

    def test_empty(self):
        self.assertEqual(Web({}, {}), Web.empty())
        self.assertEqual("", Web.empty().text())
        self.assertEqual(Web, Web.empty().__class__)

    def test_complete(self):
        for count in range(8):
            pairs = list(itertools.combinations(range(count), 2))
            self.check(Web.complete(count), count, pairs, ())
            for size in range(count + 1):
                for odd in itertools.combinations(range(count), size):
                    self.check(Web.complete(count, odd=odd), count, pairs, odd)
                    self.check(Web.complete(count, odd=list(odd[::-1] + odd)), count, pairs, odd)

    def test_complete_limit_first(self):
        for count in (8, 9, 12, 25, 10 ** 29):
            raised(self, LimitExceeded, lambda: Web.complete(count), 7)
            raised(self, LimitExceeded, lambda: Web.complete(count, odd=[-1, 99]), 7)

    def test_complete_wrong_odd(self):
        for count in range(8):
            for odd in ([count], [-1], [0, count + 5, -1], [-10 ** 29, 12], (12, 11)):
                wrong = [node for node in odd if node not in range(count)]
                raised(self, InvalidNode, lambda: Web.complete(count, odd=odd), wrong[0])

    def test_bipartite(self):
        for first in range(14):
            for second in range(14):
                pairs = [(one, other) for one in range(first) for other in range(first, first + second)]
                if first + second > 12:
                    raised(self, LimitExceeded, lambda: Web.bipartite(first, second, odd=[-1]), 12)
                elif first * second > 24:
                    raised(self, LimitExceeded, lambda: Web.bipartite(first, second, odd=[-1]), 24)
                else:
                    self.check(Web.bipartite(first, second), first + second, pairs, ())
                    odd = list(range(0, first + second, 2))
                    self.check(Web.bipartite(first, second, odd=odd + odd), first + second, pairs, odd)
                    self.check(Web.bipartite(first, second, odd=tuple(odd)), first + second, pairs, odd)
                    wrong = odd + [first + second, -1]
                    raised(self, InvalidNode, lambda: Web.bipartite(first, second, odd=wrong), first + second)
                    raised(self, InvalidNode, lambda: Web.bipartite(first, second, odd=(-1, 12)), -1)

    def test_arguments_stay(self):
        odd = [1, 0, 1]
        Web.complete(3, odd=odd)
        Web.bipartite(1, 2, odd=odd)
        self.assertEqual([1, 0, 1], odd)

    def test_odd_by_name_only(self):
        with self.assertRaises(TypeError):
            Web.complete(3, [1])
        with self.assertRaises(TypeError):
            Web.bipartite(1, 1, [1])


if __name__ == "__main__":
    unittest.main()
