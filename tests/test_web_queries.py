import itertools
import random
import unittest

import samples
from samples import many_parts, raised
from threadmark.errors import ParseError, UnknownEdge, UnknownNode
from threadmark.webs import Web

WRONG_NODES = (-1, 12, 10 ** 29, -10 ** 29)
WRONG_EDGES = ("", "y", "A", "ab", "-", "\n")


class QueriesTest(unittest.TestCase):
    def test_whole_web(self):
        for parts in many_parts(300, 11):
            marks, edges = parts
            web = Web(marks, edges)
            self.assertEqual(sorted(marks), web.nodes())
            self.assertEqual(sorted(edges), web.edges())
            self.assertEqual(len(edges), len(web))
            self.assertEqual(f"Web({len(marks)} nodes, {len(edges)} edges)", repr(web))
            self.assertEqual(sum(marks.values()) % 2, web.parity)
            self.assertEqual(samples.text(parts), web.text())

    def test_nodes(self):
        for parts in many_parts(200, 12):
            web = Web(*parts)
            for node in parts[0]:
                members = samples.component(parts, node)
                self.assertEqual(parts[0][node], web.mark(node))
                self.assertEqual(samples.star(parts, node), web.edges_of(node))
                self.assertEqual(members, web.component_of(node))
                self.assertIs(sum(parts[0][member] for member in members) % 2 == 1, web.is_odd(node))

    def test_edges(self):
        for marks, edges in many_parts(150, 13):
            web = Web(marks, edges)
            for name in "abcdefghijklmnopqrstuvwx":
                self.assertIs(name in edges, name in web)
            for name in WRONG_EDGES:
                self.assertIs(False, name in web)
            for one in edges:
                self.assertEqual(tuple(sorted(edges[one])), web.ends(one))
                for other in edges:
                    self.assertIs(bool(set(edges[one]) & set(edges[other])), web.touch(one, other))

    def test_components_and_notes(self):
        for parts in many_parts(200, 14):
            web = Web(*parts)
            components = sorted({samples.component(parts, node) for node in parts[0]})
            self.assertEqual(components, web.components())
            strangers = [
                one + other
                for one, other in itertools.combinations(sorted(parts[1]), 2)
                if not set(parts[1][one]) & set(parts[1][other])
            ]
            self.assertEqual(strangers, web.notes())

    def test_notes_of_known_webs(self):
        self.assertEqual(["af", "be", "cd"], Web.complete(4).notes())
        self.assertEqual([], Web.complete(3).notes())
        self.assertEqual([], Web.empty().notes())
        self.assertEqual(15, len(Web.complete(5).notes()))
        parallel = Web({0: 0, 1: 0, 2: 0, 3: 0}, {"d": (0, 1), "b": (1, 0), "c": (3, 2), "a": (2, 3)})
        self.assertEqual(["ab", "ad", "bc", "cd"], parallel.notes())

    def test_bare_nodes_and_parallel_edges(self):
        web = Web({7: 1, 3: 0, 0: 1, 9: 1}, {"b": (9, 3), "a": (3, 9)})
        self.assertEqual([(0,), (3, 9), (7,)], web.components())
        self.assertEqual([True, True, True, True], [web.is_odd(node) for node in (0, 3, 7, 9)])
        self.assertEqual(["", "ab", ""], [web.edges_of(node) for node in (0, 3, 7)])
        self.assertEqual([(7,), (3, 9)], [web.component_of(7), web.component_of(9)])
        self.assertTrue(web.touch("a", "b"))
        self.assertTrue(web.touch("a", "a"))
        self.assertEqual(1, web.parity)

    def test_class_values(self):
        self.assertEqual((12, 24), (Web.MAX_NODES, Web.MAX_EDGES))
        self.assertEqual((12, 24), (Web.empty().MAX_NODES, Web.empty().MAX_EDGES))

    def test_parity_is_a_property(self):
        self.assertIsInstance(vars(Web)["parity"], property)

    def test_unknown_nodes(self):
        for web in (Web.empty(), Web({0: 1, 5: 0}, {"a": (0, 5)})):
            for node in WRONG_NODES + (4,):
                for ask in (web.mark, web.edges_of, web.component_of, web.is_odd):
                    raised(self, UnknownNode, lambda: ask(node), node)

    def test_unknown_edges(self):
        web = Web({0: 1, 5: 0}, {"a": (0, 5)})
        for edge in WRONG_EDGES + ("b",):
            raised(self, UnknownEdge, lambda: web.ends(edge), edge)
            raised(self, UnknownEdge, lambda: web.touch(edge, "a"), edge)
            raised(self, UnknownEdge, lambda: web.touch("a", edge), edge)
            raised(self, UnknownEdge, lambda: web.touch(edge, "c"), edge)
            raised(self, UnknownEdge, lambda: web.touch("c", edge), "c")

    def test_returned_lists_are_new(self):
        web = Web({0: 1, 1: 0, 2: 1, 3: 0}, {"a": (0, 1), "b": (2, 3)})
        text = web.text()
        for ask in (web.nodes, web.edges, web.components, web.notes):
            first = ask()
            kept = list(first)
            first.append("more")
            first.reverse()
            self.assertEqual(kept, ask())
            self.assertIsNot(ask(), ask())
        self.assertEqual(text, web.text())
        self.assertEqual(2, len(web))


class TextTest(unittest.TestCase):
    def wrong(self, text):
        raised(self, ParseError, lambda: Web.parse(text))

    def test_round_trip(self):
        for parts in many_parts(400, 15):
            web = Web(*parts)
            again = Web.parse(web.text())
            self.assertEqual(web, again)
            self.assertEqual(samples.text(parts), again.text())
            self.assertEqual(Web, again.__class__)

    def test_known_texts(self):
        self.assertEqual(Web.empty(), Web.parse(""))
        self.assertEqual(Web({0: 1, 1: 0}, {"a": (0, 1)}), Web.parse("0* 1; a 0 1"))
        self.assertEqual(Web({10: 0, 11: 1}, {"x": (11, 10)}), Web.parse("10 11*; x 10 11"))
        self.assertEqual("2* 10 11; b 2 10; w 10 11", Web.parse("2* 10 11; b 2 10; w 10 11").text())

    def test_wrong_texts(self):
        for text in (
            " ", "\n", ";", "; ", "*", "a", "-", "a 0 1", "; a 0 1",
            "00", "01", "+1", "-1", "1.", "12", "99", "1_0", "0**", "*0", "0 *", "0* *",
            " 0", "0 ", "0  1", "0\n1", "0\n", "\n0", "0,1", "01 2", "0 01",
            "1 0", "0 0", "0 0*", "0* 0", "10 2", "2 1 0",
            "0 1;", "0 1; ", "0 1;a 0 1", "0 1 ; a 0 1", "0 1;  a 0 1", "0 1; a 0 1 ", "0 1; a 0 1;",
            "0 1; a 0 1; ", "0 1; a 0 1\n", "0 1; a  0 1", "0 1; a 0", "0 1; a", "0 1; a 0 1 1", "0 1; a0 1",
            "0 1; a 1 0", "0 1; a 0 0", "0 1; a 0 2", "0 1; a 2 3", "0 1; a 00 1", "0 1; a 0 01", "0 1; a 0* 1",
            "0 1; a -0 1", "0 1; a 0 12", "0 1 12; a 0 1", "0 1; a 0 b",
            "0 1; y 0 1", "0 1; A 0 1", "0 1; ab 0 1", "0 1;  0 1", "0 1; - 0 1", "0 1; 0 0 1",
            "0 1; b 0 1; a 0 1", "0 1; a 0 1; a 0 1", "0 1; a 0 1, b 0 1", "0 1; a 0 1;b 0 1", "0 1; a 0 1 b 0 1",
            "0 1; a 0 1; 2", "0; a 0 1; 1", "0* 1; a 0 1; b", "0\t1", "0 1; a\t0 1",
        ):
            self.wrong(text)

    def test_changed_texts(self):
        signs = " ;*0129abxyA-\n"
        for parts in many_parts(10, 16, 5, 4):
            text = samples.text(parts)
            for at in range(len(text) + 1):
                for changed in [text[:at] + sign + text[at:] for sign in signs] + [text[:at] + text[at + 1:]]:
                    self.check_text(changed)
            for at in range(len(text) - 1):
                self.check_text(text[:at] + text[at + 1] + text[at] + text[at + 2:])

    def check_text(self, text):
        """A text either is the text of the web that it gives, or it gives none."""
        try:
            web = Web.parse(text)
        except ParseError:
            self.assertNotIn(text, self.written())
        else:
            self.assertEqual(text, web.text())

    def written(self):
        """Texts of small webs, which must be accepted."""
        if not hasattr(self, "small_texts"):
            self.small_texts = {samples.text(parts) for parts in self.small_webs()}
        return self.small_texts

    def small_webs(self):
        for nodes in itertools.combinations(range(12), 2):
            for marks in itertools.product((0, 1), repeat=2):
                for names in ("", "a", "b", "x", "ab"):
                    yield dict(zip(nodes, marks)), {name: nodes for name in names}
        for node in range(12):
            yield {node: 0}, {}
            yield {node: 1}, {}
        yield {}, {}

    def test_small_texts_are_accepted(self):
        for text in self.written():
            self.assertEqual(text, Web.parse(text).text())

    def test_long_texts(self):
        rng = random.Random(17)
        for count in range(50):
            self.wrong("".join(rng.choice("0123 ;*ab") for at in range(3000)))
        self.wrong("1" * 3000)
        self.wrong(" ".join(["0"] * 1000))


if __name__ == "__main__":
    unittest.main()
