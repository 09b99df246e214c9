import random
import time
import unittest

from counting import has_flat_odd_component
from faults import first_fault, letters, spoiled
from samples import random_word, shuffled
from shapes import QUICKLY, barred_parts, evened, full_flat_parts, full_parts, kinds_of_parts
from threadmark.derivations import find_derivation
from threadmark.realizations import find_table
from threadmark.steps import is_derivation, words_along
from threadmark.tables import holds, table_fault, value_of
from threadmark.webs import Web
from walks import walk, with_stars


class TableOrDerivationTest(unittest.TestCase):
    def check(self, parts):
        """Checks that a web has either a table or a derivation; returns which one."""
        web = Web(*parts)
        table = find_table(web)
        steps = find_derivation(web)
        self.assertIs(has_flat_odd_component(parts), table is None)
        self.assertIs(table is None, steps is not None)
        if table is None:
            self.assertIs(True, is_derivation(web, steps))
            return "derivation"
        self.assertEqual(dict, table.__class__)
        self.assertEqual(sorted(parts[1]), sorted(table))
        self.assertIsNone(first_fault(parts, table))
        self.assertIsNone(table_fault(web, table))
        self.assertLessEqual(max([len(letters(text)) for text in table.values()], default=0), 30)
        return "table"

    def test_webs(self):
        seen = {"derivation": 0, "table": 0}
        for parts in kinds_of_parts(120, 401):
            seen[self.check(parts)] += 1
        self.assertLess(100, min(seen.values()), seen)

    def test_corners_joined_by_paths(self):
        rng = random.Random(402)
        for count in range(60):
            (marks, edges), (corners, paths) = barred_parts(rng, False)
            # One odd node at any place makes the only component with edges odd.
            for node in rng.sample(sorted(marks), 3):
                self.assertEqual("table", self.check(({other: int(other == node) for other in marks}, edges)))
                edge = rng.choice(sorted(edges))
                kept = {name: edges[name] for name in edges if name != edge}
                self.assertEqual("derivation", self.check(({other: int(other == node) for other in marks}, kept)))

    def test_known_webs(self):
        self.assertEqual({}, find_table(Web.empty()))
        self.assertEqual({}, find_table(Web({3: 0, 7: 0}, {})))
        self.assertIsNone(find_table(Web({3: 0, 7: 1}, {})))
        self.assertIsNone(find_table(Web({0: 0, 1: 0, 7: 1}, {"a": (0, 1)})))
        self.assertIsNone(find_table(Web({0: 1, 1: 0}, {"a": (0, 1), "b": (0, 1)})))
        for parts in (
            ({}, {}),
            ({3: 0}, {}),
            ({3: 1}, {}),
            ({3: 1, 4: 1}, {}),
            ({0: 1, 1: 1}, {"a": (0, 1), "b": (1, 0), "x": (0, 1)}),
            ({0: 1, 1: 1, 5: 0}, {"a": (0, 1)}),
        ):
            self.check(parts)
        for count in range(8):
            web = Web.complete(count, odd=[count - 1] if count else [])
            self.assertIs(0 < count < 5, find_table(web) is None)
            self.assertIs(True, holds(Web.complete(count), find_table(Web.complete(count))))
        for count in range(9):
            web = Web.bipartite(3, count, odd=[0])
            self.assertIs(count < 3, find_table(web) is None)

    def test_two_odd_components(self):
        # A table needs a barrier in each odd component.
        web = Web.complete(5, odd=[0])
        for node, other, name in ((6, 7, "v"), (8, 9, "w")):
            web = web.with_node(node, mark=1).with_node(other).with_edge(name, node, other)
        self.assertIsNone(find_table(web))
        self.assertIsNone(find_table(web.turned(7)))
        self.assertIsNotNone(find_table(web.turned(7).turned(8)))
        self.assertIsNone(find_table(web.turned(7).turned(8).cut("w").turned(9)))

    def test_largest_webs_end_quickly(self):
        rng = random.Random(403)
        seen = {"derivation": 0, "table": 0}
        for count in range(40):
            parts = full_flat_parts(rng) if count % 2 else full_parts(rng)
            web = Web(*parts)
            for call in (find_table, find_derivation):
                started = time.monotonic()
                call(web)
                self.assertLess(time.monotonic() - started, QUICKLY)
            seen[self.check(parts)] += 1
        self.assertLess(5, min(seen.values()), seen)

    def test_equal_webs_give_equal_results(self):
        rng = random.Random(404)
        for parts in kinds_of_parts(30, 405):
            web = Web(*parts)
            text = web.text()
            twin = Web(*shuffled(rng, parts))
            for call in (find_table, find_derivation):
                first = call(web)
                kept = None if first is None else first.copy()
                if first:
                    first.clear()
                self.assertEqual(kept, call(web))
                self.assertEqual(kept, call(twin))
            self.assertEqual(text, web.text())


class FaultTest(unittest.TestCase):
    def test_changed_tables(self):
        rng = random.Random(406)
        seen = {}
        for parts in kinds_of_parts(60, 407):
            found = find_table(Web(*parts))
            if found is None:
                parts = evened(parts)
                found = find_table(Web(*parts))
            for count in range(20):
                names = rng.sample(sorted(found), len(found))
                table = spoiled(rng, {name: found[name] for name in names})
                kept = list(table.items())
                expected = first_fault(parts, table)
                web = Web(*shuffled(rng, parts))
                self.assertEqual(expected, table_fault(web, table))
                self.assertIs(expected is None, holds(web, table))
                self.assertEqual(kept, list(table.items()))
                kind = expected[0] if expected else "holds"
                seen[kind] = seen.get(kind, 0) + 1
        for kind in ("edge", "string", "length", "square", "pair", "node", "holds"):
            self.assertLess(20, seen.get(kind, 0), seen)

    def test_no_step_changes_a_value(self):
        rng = random.Random(408)
        seen = {}
        for parts in kinds_of_parts(30, 409):
            web = Web(*parts)
            table = find_table(web)
            if table is None:
                continue
            for count in range(4):
                steps, words = walk(rng, parts, with_stars(rng, parts, 2), 6)
                for step in steps:
                    seen[step[0]] = seen.get(step[0], 0) + 1
                self.assertEqual(words, list(words_along(web, words[0], steps)))
                self.assertEqual(1, len({value_of(table, word) for word in words}))
        # A flip would need an odd bare node, which no table allows.
        for kind in ("insert", "cancel", "swap", "spread", "gather"):
            self.assertLess(20, seen.get(kind, 0), seen)

    def test_another_sign_is_another_value(self):
        rng = random.Random(410)
        for parts in kinds_of_parts(20, 411):
            table = find_table(Web(*parts))
            if table is not None:
                word = letters(random_word(rng, list(parts[1]), 20))
                self.assertNotEqual(value_of(table, word), value_of(table, "-" + word))


if __name__ == "__main__":
    unittest.main()
