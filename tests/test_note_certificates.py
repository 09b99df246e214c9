import random
import time
import unittest

from counting import added, alone, even, forms, is_a_form, notes_of_component, notes_of_rule, rules, strangers
from samples import component, many_parts, raised, shuffled
from shapes import QUICKLY, full_flat_parts, full_parts, mixed_parts, several_parts
from threadmark.errors import UnknownNode
from threadmark.layouts import find_drawing
from threadmark.notes import check_note_certificate, is_planar_by_notes, note_certificate
from threadmark.webs import Web


def model(parts, node, certificate):
    """Whether a certificate is as described."""
    kind, items = certificate
    wanted = notes_of_component(parts, node)
    if kind == "rules":
        known = rules(parts)
        if not all(rule in known for rule in items):
            return False
        return added([notes_of_rule(parts, *rule) for rule in items]) == wanted
    return kind == "form" and is_a_form(parts, items) and not even(items, wanted)


def changed(rng, parts, certificate):
    """A certificate with one change."""
    kind, items = certificate
    items = list(items)
    at = rng.randrange(len(items) + 1)
    choice = rng.randint(0, 6)
    if choice == 0:
        other = rng.choice(["rule", "forms", "", "Rules", "solution"])
        return other, rng.choice([items, []])
    if choice == 1:
        return kind, items[:at] + items[at + 1:]
    if choice == 2:
        return kind, items[:at] + items[at:at + 1] + items[at:]
    if choice == 3:
        rng.shuffle(items)
        return kind, items
    if kind == "form":
        if choice == 4:
            return kind, added([items, rng.choice(forms(parts))])
        fresh = rng.choice(strangers(parts) + ["", "ba", "yz", "a"])
        return kind, added([items, [fresh]])
    edge, node = rng.choice(rules(parts) or [("a", 0)])
    if choice == 4:
        return kind, items[:at] + [(edge, node)] * 2 + items[at:]
    wrong = (rng.choice([edge, "", "y", "ab", "-"]), rng.choice([node, -1, 12, 10 ** 29, *range(12)]))
    return kind, items[:at] + [rng.choice([(edge, node), wrong])] + items[at:]


def webs(count, seed):
    """Webs of many kinds."""
    rng = random.Random(seed)
    return many_parts(count, seed) + [rng.choice([mixed_parts, several_parts])(rng) for at in range(2 * count)]


class CertificateTest(unittest.TestCase):
    def check(self, parts, node):
        """Checks the certificate of a component; returns its text."""
        web = Web(*parts)
        certificate = note_certificate(web, node)
        self.assertEqual(tuple, certificate.__class__)
        kind, items = certificate
        self.assertEqual(list, items.__class__)
        self.assertEqual(sorted(set(items)), items)
        self.assertTrue(model(parts, node, certificate))
        self.assertIs(True, check_note_certificate(web, node, certificate))
        expected = "form" if find_drawing(Web(*alone(parts, node))) is None else "rules"
        self.assertEqual(expected, kind)
        return kind

    def test_each_component(self):
        seen = {"form": 0, "rules": 0}
        for parts in webs(60, 331):
            kinds = [self.check(parts, members[0]) for members in {component(parts, node) for node in parts[0]}]
            for kind in kinds:
                seen[kind] += 1
            planar = is_planar_by_notes(Web(*parts))
            self.assertIs("form" not in kinds, planar)
            self.assertIs(find_drawing(Web(*parts)) is not None, planar)
        self.assertLess(20, min(seen.values()), seen)

    def test_any_node_of_a_component(self):
        for parts in webs(8, 332):
            for node in parts[0]:
                least = component(parts, node)[0]
                self.assertEqual(note_certificate(Web(*parts), least), note_certificate(Web(*parts), node))

    def test_known_webs(self):
        self.assertEqual(("rules", []), note_certificate(Web({4: 1}, {}), 4))
        self.assertIs(True, is_planar_by_notes(Web.empty()))
        self.assertIs(True, is_planar_by_notes(Web({4: 1, 5: 0}, {})))
        for count in range(1, 8):
            self.assertIs(count < 5, is_planar_by_notes(Web.complete(count)))
        self.assertIs(False, is_planar_by_notes(Web.bipartite(3, 3)))
        beside = Web.complete(5).with_node(8).with_node(9).with_edge("x", 8, 9)
        self.assertEqual(["form", "rules"], [note_certificate(beside, node)[0] for node in (3, 9)])
        self.assertIs(False, is_planar_by_notes(beside))

    def test_unknown_nodes(self):
        web = Web.complete(3)
        for node in (3, 11, 12, -1, 10 ** 29, -10 ** 29):
            raised(self, UnknownNode, lambda: note_certificate(web, node), node)
            for certificate in (("rules", []), ("form", ["ab"]), ("other", []), ("rules", [("y", 77)])):
                raised(self, UnknownNode, lambda: check_note_certificate(web, node, certificate), node)

    def test_largest_webs_end_quickly(self):
        rng = random.Random(333)
        for count in range(24):
            parts = full_flat_parts(rng) if count % 2 else full_parts(rng)
            web = Web(*parts)
            started = time.monotonic()
            planar = is_planar_by_notes(web)
            kinds = [self.check(parts, members[0]) for members in web.components()]
            self.assertLess(time.monotonic() - started, QUICKLY)
            self.assertIs("form" not in kinds, planar)

    def test_equal_webs_give_equal_certificates(self):
        rng = random.Random(334)
        for parts in webs(15, 335):
            web = Web(*parts)
            text = web.text()
            for node in parts[0]:
                first = note_certificate(web, node)
                kept = (first[0], list(first[1]))
                first[1].clear()
                self.assertEqual(kept, note_certificate(web, node))
                self.assertEqual(kept, note_certificate(Web(*shuffled(rng, parts)), node))
            self.assertEqual(text, web.text())


class CheckCertificateTest(unittest.TestCase):
    def check(self, parts, node, certificate):
        expected = model(parts, node, certificate)
        kind, items = certificate
        kept = list(items)
        web = Web(*parts)
        self.assertIs(expected, check_note_certificate(web, node, certificate), certificate)
        self.assertIs(expected, check_note_certificate(web, node, (kind, tuple(items))))
        self.assertEqual(kept, items)
        return expected

    def test_answers_with_one_change(self):
        rng = random.Random(336)
        seen = {}
        for parts in webs(40, 337):
            for node in rng.sample(sorted(parts[0]), min(2, len(parts[0]))):
                certificate = note_certificate(Web(*parts), node)
                self.assertTrue(self.check(parts, node, certificate))
                for count in range(8):
                    other = changed(rng, parts, certificate)
                    kind = (certificate[0], self.check(parts, node, other))
                    seen[kind] = seen.get(kind, 0) + 1
        for kind in (("rules", True), ("rules", False), ("form", True), ("form", False)):
            self.assertLess(20, seen[kind], seen)

    def test_certificates_of_other_components(self):
        rng = random.Random(338)
        for count in range(25):
            parts = several_parts(rng)
            for node in parts[0]:
                certificate = note_certificate(Web(*parts), node)
                for other in parts[0]:
                    self.check(parts, other, certificate)

    def test_known_certificates(self):
        # A path of three edges: its component has no notes, and each of these rules has the note ab.
        parts = ({node: 0 for node in range(5)}, {"a": (0, 1), "b": (2, 3), "c": (1, 2)})
        web = Web(*parts)
        for rules_given, expected in [
            ([], True), ([("a", 3)], False), ([("a", 3), ("a", 3)], True), ([("b", 0), ("a", 3)], True),
            ([("a", 3), ("b", 0)], True), ([("a", 3), ("a", 3), ("a", 3)], False), ([("a", 4)], True),
            ([("a", 0)], False), ([("a", 5)], False), ([("d", 0)], False), ([("a", -1), ("a", -1)], False),
            ([("", 0)], False), ([("ab", 4)], False), ([("a", 0), ("a", 0)], False),
        ]:
            self.assertIs(expected, check_note_certificate(web, 0, ("rules", rules_given)), rules_given)
            self.assertIs(expected, model(parts, 0, ("rules", rules_given)))
            self.assertIs(False, check_note_certificate(web, 0, ("rule", rules_given)))
            self.assertIs(False, check_note_certificate(web, 0, ("", rules_given)))
        self.assertIs(False, check_note_certificate(web, 0, ("form", [])))
        self.assertIs(False, check_note_certificate(web, 0, ("form", ["ab"])))
        five = Web.complete(5)
        kind, notes = note_certificate(five, 0)
        self.assertEqual("form", kind)
        self.assertIs(True, check_note_certificate(five, 4, ("form", tuple(notes))))
        self.assertIs(False, check_note_certificate(five, 4, ("form", notes[::-1])))
        self.assertIs(False, check_note_certificate(five, 4, ("form", notes[1:])))
        self.assertIs(False, check_note_certificate(five, 4, ("form", notes[:1] + notes)))
        self.assertIs(False, check_note_certificate(five, 4, ("rules", [])))


if __name__ == "__main__":
    unittest.main()
