import inspect
import unittest

from samples import check_functions, raised
from threadmark import errors, joins, steps, strings, tables
from threadmark.strings import SignedString
from threadmark.webs import Web

FUNCTIONS = {
    steps: {
        "words_along": "(web, word, steps)",
        "run_steps": "(web, word, steps)",
        "opposite_steps": "(web, word, steps)",
        "is_derivation": "(web, steps)",
    },
    strings: {
        "check_string": "(text)",
        "multiply": "(*strings)",
        "commute": "(one, other)",
        "identity": "(size)",
    },
    tables: {
        "table_fault": "(web, table)",
        "holds": "(web, table)",
        "value_of": "(table, word)",
    },
    joins: {
        "edge_join": "(web, nodes)",
        "odd_cycle": "(web, names)",
        "node_sum": "(web, names)",
    },
}
FLIPS = [("flip", 3), ("insert", 0, "a")]


class InterfaceTest(unittest.TestCase):
    def test_functions(self):
        check_functions(self, FUNCTIONS)
        self.assertTrue(inspect.isgeneratorfunction(steps.words_along))

    def test_signed_string(self):
        self.assertEqual("threadmark.strings", SignedString.__module__)
        self.assertEqual("(text)", str(inspect.signature(SignedString)))
        for name in ("text", "__len__", "__repr__", "__mul__", "__neg__", "__contains__", "__eq__"):
            self.assertIn(name, vars(SignedString))


class CallsByNameTest(unittest.TestCase):
    def setUp(self):
        self.web = Web({0: 0, 1: 0, 3: 1}, {"b": (1, 0), "a": (0, 1)})
        self.twin = Web({3: 1, 1: 0, 0: 0}, {"a": (1, 0), "b": (0, 1)})

    def test_steps(self):
        web = self.web
        self.assertEqual(["b", "-b", "-aab"], list(steps.words_along(steps=FLIPS, word="b", web=web)))
        self.assertEqual("-aab", steps.run_steps(steps=FLIPS, word="b", web=web))
        self.assertEqual([("cancel", 0), ("flip", 3)], steps.opposite_steps(steps=FLIPS, word="b", web=web))
        self.assertIs(True, steps.is_derivation(steps=FLIPS[:1], web=web))
        raised(self, errors.InvalidWord, lambda: steps.run_steps(steps=[()], word="by", web=web), 1)

    def test_strings(self):
        self.assertIsNone(strings.check_string(text="-X"))
        self.assertIs(False, strings.commute(other="X", one="Z"))
        raised(self, errors.InvalidString, lambda: strings.commute(other="Q", one="q"), "q")
        self.assertEqual("11", strings.identity(size=2))
        self.assertEqual("-X", SignedString(text="-X").text())

    def test_tables(self):
        table = {"b": "-1", "a": "-1"}
        web = self.web.turned(3)
        self.assertIsNone(tables.table_fault(table=table, web=web))
        self.assertIs(True, tables.holds(table=table, web=web))
        self.assertEqual("1", tables.value_of(word="-a", table=table))

    def test_joins(self):
        self.assertIn(joins.edge_join(nodes=[0, 1], web=self.web), ("a", "b"))
        self.assertEqual("ab", joins.odd_cycle(names="b", web=self.web))
        self.assertIn([end for end in joins.node_sum(names="ab", web=self.web) if end != 3], ([0], [1]))

    def test_equal_arguments_give_equal_results(self):
        for web in (self.web, self.twin):
            self.assertEqual(steps.opposite_steps(self.web, "b", FLIPS), steps.opposite_steps(web, "b", tuple(FLIPS)))
            self.assertEqual(("edge", "b"), tables.table_fault(web, {"a": "1"}))
        self.assertIsNot(steps.opposite_steps(self.web, "b", []), steps.opposite_steps(self.web, "b", []))


if __name__ == "__main__":
    unittest.main()
