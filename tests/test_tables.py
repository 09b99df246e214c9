import itertools
import random
import unittest

from faults import first_fault, letters, spoiled
from samples import many_parts, raised, random_word, shuffled, star
from threadmark.errors import InvalidWord
from threadmark.steps import run_steps
from threadmark.strings import multiply
from threadmark.tables import holds, table_fault, value_of
from threadmark.webs import Web

SQUARE = Web.bipartite(3, 3, odd=[5])
SQUARE_TABLE = {
    "a": "X1", "b": "1X", "c": "XX", "d": "1Z", "e": "Z1", "f": "ZZ", "g": "XZ", "h": "ZX", "i": "-WW",
}


def cycle_space(parts):
    """Sets of edges of which each node has an even number, found by trying."""
    names = sorted(parts[1])
    for bits in range(1 << len(names)):
        chosen = [name for at, name in enumerate(names) if bits >> at & 1]
        if all(sum(name in chosen for name in star(parts, node)) % 2 == 0 for node in parts[0]):
            yield chosen


def holding(rng, parts, size):
    """A web with the given edges, and a table of it that holds: any signs, and the letter X along cycles."""
    marks, edges = parts
    minus = {name for name in edges if rng.randint(0, 1)}
    odd = {node: sum(name in minus for name in star(parts, node)) % 2 for node in marks}
    cycles = list(cycle_space(parts))
    columns = [rng.choice(cycles) for at in range(size)]
    table = {}
    for name in rng.sample(sorted(edges), len(edges)):
        text = "".join("X" if name in column else "1" for column in columns)
        table[name] = ("-" if name in minus else "") + text
    return (odd, edges), table


class FaultTest(unittest.TestCase):
    def check(self, parts, table):
        web = Web(*parts)
        kept = list(table.items())
        expected = first_fault(parts, table)
        self.assertEqual(expected, table_fault(web, table))
        self.assertIs(expected is None, holds(web, table))
        self.assertEqual(kept, list(table.items()))
        return expected[0] if expected else "holds"

    def test_tables(self):
        rng = random.Random(81)
        seen = {}
        for parts in many_parts(250, 82, 6, 8):
            parts, table = holding(rng, parts, rng.randint(0, 5))
            self.assertEqual("holds", self.check(parts, table))
            for count in range(12):
                kind = self.check(shuffled(rng, parts), spoiled(rng, table))
                seen[kind] = seen.get(kind, 0) + 1
        for kind in ("edge", "string", "length", "square", "pair", "node"):
            self.assertLess(50, seen[kind], seen)

    def test_random_tables(self):
        rng = random.Random(83)
        for parts in many_parts(150, 84, 5, 5):
            for count in range(10):
                size = rng.randint(0, 2)
                names = rng.sample(sorted(parts[1]), len(parts[1]))
                texts = ["".join(rng.choice("1XZ") for at in range(size)) for name in names]
                self.check(parts, dict(zip(names, texts)))

    def test_square(self):
        self.assertIsNone(table_fault(SQUARE, SQUARE_TABLE))
        self.assertIs(True, holds(SQUARE, SQUARE_TABLE))
        for node in range(6):
            self.assertEqual(("node", node), table_fault(SQUARE.turned(node), SQUARE_TABLE))
        self.assertEqual(("node", 2), table_fault(SQUARE, {**SQUARE_TABLE, "i": "WW"}))
        self.assertEqual(("square", "i"), table_fault(SQUARE, {**SQUARE_TABLE, "i": "1W"}))
        self.assertEqual(("pair", "a", "b"), table_fault(SQUARE, {**SQUARE_TABLE, "b": "ZX"}))
        self.assertEqual(("pair", "a", "g"), table_fault(SQUARE, {**SQUARE_TABLE, "g": "Z1"}))
        self.assertEqual(("length", "b"), table_fault(SQUARE, {**SQUARE_TABLE, "a": "X"}))
        self.assertEqual(("length", "c"), table_fault(SQUARE, {**SQUARE_TABLE, "c": "-X", "d": "X"}))
        self.assertEqual(("string", "c"), table_fault(SQUARE, {**SQUARE_TABLE, "d": "y", "c": "--"}))

    def test_first_of_several(self):
        web = Web({0: 1, 1: 0, 2: 0}, {"b": (0, 1), "a": (1, 2), "c": (0, 2)})
        for table, fault in (
            ({"d": "Q", "a": "Q", "e": ""}, ("edge", "b")),
            ({"": "Q", "a": "", "b": "", "c": ""}, ("edge", "")),
            ({"z": "", "ab": "", "c": "", "b": "", "a": ""}, ("edge", "ab")),
            ({"c": "Q", "b": "q", "a": "XX"}, ("string", "b")),
            ({"c": "W", "b": "ZZ", "a": "X"}, ("length", "b")),
            ({"c": "WW", "b": "WX", "a": "W1"}, ("square", "a")),
            ({"c": "XZ", "b": "ZX", "a": "X1"}, ("pair", "a", "b")),
            ({"c": "Z1", "b": "X1", "a": "X1"}, ("pair", "a", "c")),
            ({"c": "Z", "b": "X", "a": "1"}, ("pair", "b", "c")),
            ({"c": "1", "b": "-1", "a": "1"}, ("node", 1)),
            ({"c": "", "b": "", "a": ""}, ("node", 0)),
            ({"c": "-", "b": "", "a": ""}, ("node", 2)),
            ({"c": "X", "b": "X", "a": "-X"}, ("node", 0)),
        ):
            for names in itertools.permutations(table):
                mixed = {name: table[name] for name in names}
                self.assertEqual(fault, table_fault(web, mixed))
                self.assertIs(False, holds(web, mixed))

    def test_bare_nodes(self):
        self.assertIsNone(table_fault(Web.empty(), {}))
        self.assertIs(True, holds(Web.empty(), {}))
        self.assertEqual(("edge", "a"), table_fault(Web.empty(), {"b": "X", "a": "Q"}))
        self.assertIsNone(table_fault(Web({3: 0, 4: 0}, {}), {}))
        self.assertEqual(("node", 4), table_fault(Web({3: 0, 4: 1, 5: 1}, {}), {}))
        self.assertEqual(("edge", "a"), table_fault(Web({4: 1}, {}), {"a": "X"}))
        pair = {"a": (0, 1)}
        self.assertIsNone(table_fault(Web({0: 1, 1: 1, 7: 0}, pair), {"a": "-11"}))
        self.assertEqual(("node", 7), table_fault(Web({0: 1, 1: 1, 7: 1}, pair), {"a": "-11"}))
        self.assertEqual(("node", 0), table_fault(Web({0: 1, 1: 1, 7: 1}, pair), {"a": "11"}))
        self.assertEqual(("node", 1), table_fault(Web({0: 1, 1: 0}, pair), {"a": "-"}))


class ValueTest(unittest.TestCase):
    def test_values(self):
        rng = random.Random(85)
        for count in range(200):
            size = rng.randint(0, 6)
            names = rng.sample("abcdefx", rng.randint(1, 7))
            table = {}
            for name in names:
                table[name] = rng.choice(["", "-"]) + "".join(rng.choice("1XZW") for at in range(size))
            kept = list(table.items())
            word = random_word(rng, names, 30)
            strings = [table[letter] for letter in letters(word)]
            sign = "-" if word[:1] == "-" else ""
            self.assertEqual(multiply(sign + "1" * size, *strings), value_of(table, word))
            self.assertEqual(kept, list(table.items()))

    def test_known_values(self):
        self.assertEqual(["", "-"], [value_of({}, ""), value_of({}, "-")])
        table = {"b": "-XZ", "a": "ZZ"}
        self.assertEqual(["11", "-11"], [value_of(table, ""), value_of(table, "-")])
        self.assertEqual(["ZZ", "-XZ", "XZ"], [value_of(table, word) for word in ("a", "b", "-b")])
        self.assertEqual(["W1", "-W1", "W1"], [value_of(table, word) for word in ("ab", "-ab", "-ba")])
        self.assertEqual(["-", ""], [value_of({"a": "-"}, "a"), value_of({"a": "-"}, "-a")])
        self.assertEqual("-" + "1" * 40, value_of({"a": "1" * 40}, "-"))

    def test_letters_that_are_no_keys(self):
        table = {"b": "-XZ", "a": "ZZ"}
        for word, position in (("c", 0), ("-c", 0), ("abac", 3), ("-abyc", 2), ("a-b", 1), ("--", 0), ("b a", 1)):
            raised(self, InvalidWord, lambda: value_of(table, word), position)
        raised(self, InvalidWord, lambda: value_of({}, "a"), 0)
        raised(self, InvalidWord, lambda: value_of({"ab": "X"}, "-ab"), 0)

    def test_no_step_changes_a_value(self):
        rng = random.Random(86)
        for count in range(300):
            word = random_word(rng, "abcdefghi", 10)
            value = value_of(SQUARE_TABLE, word)
            at = rng.randint(0, len(letters(word)))
            edge = rng.choice("abcdefghi")
            steps = [("insert", at, edge)]
            for node in rng.sample(SQUARE.ends(edge), 2):
                others = SQUARE.edges_of(node).replace(edge, "")
                steps.append(("spread", at, node, "".join(rng.sample(others, 2))))
                steps.append(("swap", at))
                self.assertEqual(value, value_of(SQUARE_TABLE, run_steps(SQUARE, word, steps)))
                steps.append(("gather", at, node, edge))
                self.assertEqual(value, value_of(SQUARE_TABLE, run_steps(SQUARE, word, steps)))


if __name__ == "__main__":
    unittest.main()
