import random
import unittest

from counting import has_flat_odd_component
from faults import letters, spoiled
from samples import NAMES, component, many_parts, raised, random_word, shuffled
from shapes import kinds_of_parts
from threadmark.certificates import Certificate, Derivation, TableCertificate, certificate_of
from threadmark.derivations import find_derivation
from threadmark.errors import InvalidWord
from threadmark.realizations import find_table
from threadmark.steps import is_derivation
from threadmark.tables import holds, value_of
from threadmark.webs import Web
from walks import MIXED, PAIR, PAIR_STEPS, walk


class CertificateTest(unittest.TestCase):
    def test_base(self):
        for parts in many_parts(20, 521):
            web = Web(*parts)
            found = Certificate(web)
            self.assertEqual(web, found.web())
            self.assertIs(False, found.is_valid())
            self.assertEqual(f"certificate of Web({len(parts[0])} nodes, {len(parts[1])} edges)", found.describe())
        self.assertEqual("certificate of Web(2 nodes, 1 edges)", Certificate(Web(*PAIR)).describe())

    def test_labels(self):
        self.assertEqual("certificate", Certificate.LABEL)
        self.assertEqual("derivation", Derivation.LABEL)
        self.assertEqual("table", TableCertificate.LABEL)
        found = [Certificate(Web.empty()), Derivation(Web.empty(), []), TableCertificate(Web.empty(), {})]
        self.assertEqual(["certificate", "derivation", "table"], [some.LABEL for some in found])
        self.assertNotIn("LABEL", vars(found[1]))

    def test_classes(self):
        self.assertEqual((Certificate,), Derivation.__bases__)
        self.assertEqual((Certificate,), TableCertificate.__bases__)
        for kind, names in (
            (Certificate, ("web", "describe", "is_valid")),
            (Derivation, ("__len__", "steps", "describe", "is_valid")),
            (TableCertificate, ("__call__", "table", "describe", "is_valid")),
        ):
            for name in names:
                self.assertIn(name, vars(kind))


class DerivationTest(unittest.TestCase):
    def check(self, web, steps):
        kept = list(steps)
        found = Derivation(web, steps)
        self.assertIsInstance(found, Certificate)
        self.assertEqual(web, found.web())
        self.assertEqual(len(kept), len(found))
        self.assertEqual(kept, found.steps())
        self.assertEqual(list, found.steps().__class__)
        self.assertIs(is_derivation(web, kept), found.is_valid())
        self.assertEqual(f"derivation of {web!r} in {len(kept)} steps", found.describe())
        return found

    def test_right_and_wrong_steps(self):
        rng = random.Random(522)
        seen = {True: 0, False: 0}
        for parts in [PAIR, MIXED] + kinds_of_parts(30, 523):
            web = Web(*parts)
            lists = [walk(rng, parts, "", 5)[0], [], [()], [("flip", 12)]]
            steps = find_derivation(web)
            if steps is not None:
                lists += [steps, steps * 2, steps * 3, steps[1:], steps[:-1], tuple(steps)]
            for some in lists:
                seen[self.check(web, some).is_valid()] += 1
        self.assertLess(40, min(seen.values()), seen)

    def test_known(self):
        found = self.check(Web(*PAIR), PAIR_STEPS)
        self.assertIs(True, found.is_valid())
        self.assertEqual("derivation of Web(2 nodes, 1 edges) in 3 steps", found.describe())
        found = self.check(Web({3: 1}, {}), [("flip", 3)])
        self.assertEqual("derivation of Web(1 nodes, 0 edges) in 1 steps", found.describe())
        self.assertIs(False, self.check(Web(*PAIR).turned(1), PAIR_STEPS).is_valid())

    def test_lists_may_be_changed(self):
        steps = list(PAIR_STEPS)
        found = Derivation(Web(*PAIR), steps)
        steps.clear()
        found.steps().pop()
        self.assertEqual(PAIR_STEPS, found.steps())
        self.assertEqual(3, len(found))
        self.assertIs(True, found.is_valid())
        self.assertIsNot(found.steps(), found.steps())


class TableTest(unittest.TestCase):
    def check(self, web, table):
        kept = dict(table)
        found = TableCertificate(web, table)
        self.assertIsInstance(found, Certificate)
        self.assertEqual(web, found.web())
        self.assertEqual(kept, found.table())
        self.assertEqual(dict, found.table().__class__)
        self.assertIs(holds(web, kept), found.is_valid())
        size = len(letters(kept[min(kept)])) if kept else 0
        self.assertEqual(f"table of {web!r} with strings of {size} letters", found.describe())
        self.assertEqual(kept, table)
        return found

    def test_right_and_wrong_tables(self):
        rng = random.Random(524)
        seen = {True: 0, False: 0}
        for parts in kinds_of_parts(40, 525):
            web = Web(*parts)
            table = find_table(web) or {}
            for some in [table, {}] + [spoiled(rng, table) for count in range(3)]:
                seen[self.check(web, some).is_valid()] += 1
        self.assertLess(40, min(seen.values()), seen)

    def test_values(self):
        rng = random.Random(526)
        for parts in kinds_of_parts(20, 527):
            table = find_table(Web(*parts)) or {"a": "-XZ1", "x": "WW1"}
            found = TableCertificate(Web(*parts), table)
            for count in range(5):
                word = random_word(rng, list(table), 20)
                self.assertEqual(value_of(table, word), found(word))
        found = TableCertificate(Web.empty(), {})
        self.assertEqual(["", "-"], [found(""), found("-")])

    def test_invalid_words(self):
        found = TableCertificate(Web.complete(3), {"b": "X", "a": "1"})
        for word, position in (("c", 0), ("-abc", 2), ("a-", 1), ("--", 0), ("ab ba", 2)):
            raised(self, InvalidWord, lambda: found(word), position)
            raised(self, InvalidWord, lambda: found(word=word), position)
        self.assertEqual("-X", found("-aab"))

    def test_known(self):
        found = self.check(Web.empty(), {})
        self.assertEqual("table of Web(0 nodes, 0 edges) with strings of 0 letters", found.describe())
        found = self.check(Web.complete(2), {"b": "X", "a": "-ZZ"})
        self.assertEqual("table of Web(2 nodes, 1 edges) with strings of 2 letters", found.describe())

    def test_dicts_may_be_changed(self):
        table = {"a": "-"}
        found = TableCertificate(Web({0: 1, 1: 1}, {"a": (0, 1)}), table)
        table["a"] = ""
        found.table().clear()
        self.assertEqual({"a": "-"}, found.table())
        self.assertIs(True, found.is_valid())
        self.assertIsNot(found.table(), found.table())


class CertificateOfTest(unittest.TestCase):
    def kind(self, parts):
        """Checks the certificate of a web and returns its label."""
        web = Web(*parts)
        found = certificate_of(web)
        self.assertEqual(web, found.web())
        self.assertIs(True, found.is_valid())
        if has_flat_odd_component(parts):
            self.assertEqual(Derivation, found.__class__)
            self.assertIs(True, is_derivation(web, found.steps()))
        else:
            self.assertEqual(TableCertificate, found.__class__)
            self.assertIs(True, holds(web, found.table()))
            self.assertLessEqual(max([len(letters(text)) for text in found.table().values()], default=0), 30)
        return found.LABEL

    def test_webs(self):
        rng = random.Random(528)
        seen = {"derivation": 0, "table": 0}
        for parts in kinds_of_parts(60, 529):
            kind = self.kind(parts)
            seen[kind] += 1
            one, other = certificate_of(Web(*parts)), certificate_of(Web(*shuffled(rng, parts)))
            self.assertEqual(one.describe(), other.describe())
            if kind == "table":
                self.assertEqual(one.table(), other.table())
            else:
                self.assertEqual(one.steps(), other.steps())
        self.assertLess(40, min(seen.values()), seen)

    def test_known(self):
        self.assertEqual("derivation", self.kind(({3: 1}, {})))
        self.assertEqual("table", self.kind(({3: 0}, {})))
        self.assertEqual("table", self.kind(({}, {})))
        self.assertEqual("derivation", certificate_of(Web.complete(4, odd=[0])).LABEL)
        self.assertEqual("table", certificate_of(Web.complete(5, odd=[0])).LABEL)
        self.assertEqual("table", certificate_of(Web.complete(4, odd=[0, 1])).LABEL)

    def renamed(self, rng, parts):
        nodes = dict(zip(range(12), rng.sample(range(12), 12)))
        names = dict(zip(NAMES, rng.sample(NAMES, 24)))
        marks = {nodes[node]: mark for node, mark in parts[0].items()}
        return marks, {names[name]: (nodes[one], nodes[other]) for name, (one, other) in parts[1].items()}

    def changes(self, rng, parts):
        """Webs that have the same kind of certificate."""
        marks, edges = parts
        yield self.renamed(rng, parts)
        free_nodes = [node for node in range(12) if node not in marks]
        free_names = [name for name in NAMES if name not in edges]
        if free_nodes and free_names and edges:
            edge = rng.choice(sorted(edges))
            one, other = edges[edge]
            divided = {**edges, edge: (one, free_nodes[0]), free_names[0]: (free_nodes[0], other)}
            yield {**marks, free_nodes[0]: 0}, divided
        if free_names and edges:
            yield marks, {**edges, free_names[0]: edges[rng.choice(sorted(edges))]}
        even = [node for node in marks if marks[node] == 0]
        if free_nodes and free_names and even:
            yield {**marks, free_nodes[0]: 0}, {**edges, free_names[0]: (rng.choice(even), free_nodes[0])}
        for node in rng.sample(sorted(marks), len(marks))[:2]:
            for member in rng.sample(component(parts, node), 1):
                turned = dict(marks)
                turned[node] ^= 1
                turned[member] ^= 1
                yield turned, edges

    def test_the_kind_stays(self):
        rng = random.Random(530)
        changed = 0
        for parts in kinds_of_parts(40, 531):
            kind = self.kind(parts)
            for other in self.changes(rng, parts):
                self.assertEqual(kind, self.kind(other))
                changed += 1
        self.assertLess(300, changed)

    def test_a_further_bare_odd_node(self):
        added = 0
        for parts in kinds_of_parts(30, 532):
            free = [node for node in range(12) if node not in parts[0]]
            if free:
                self.assertEqual("derivation", self.kind(({**parts[0], free[0]: 1}, parts[1])))
                added += 1
        self.assertLess(40, added)


if __name__ == "__main__":
    unittest.main()
