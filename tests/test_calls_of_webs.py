import inspect
import unittest

from samples import raised
from threadmark import errors, webs, words
from threadmark.webs import Web

METHODS = {
    "empty": "()",
    "complete": "(count, *, odd=())",
    "bipartite": "(first, second, *, odd=())",
    "parse": "(text)",
    "nodes": "(self)",
    "edges": "(self)",
    "mark": "(self, node)",
    "edges_of": "(self, node)",
    "component_of": "(self, node)",
    "is_odd": "(self, node)",
    "ends": "(self, edge)",
    "touch": "(self, one, other)",
    "components": "(self)",
    "notes": "(self)",
    "text": "(self)",
    "with_node": "(self, node, *, mark=0)",
    "without_node": "(self, node)",
    "turned": "(self, node)",
    "with_edge": "(self, edge, one, other)",
    "cut": "(self, edge)",
    "contracted": "(self, edge)",
}
WORD_FUNCTIONS = {
    "check_word": "(web, word)",
    "product": "(*words)",
    "inverse": "(word)",
    "reduced": "(word)",
    "cut_word": "(word, edge)",
    "contract_word": "(web, word, edge)",
}


class InterfaceTest(unittest.TestCase):
    def test_web(self):
        self.assertEqual("threadmark.webs", Web.__module__)
        self.assertEqual("(marks, edges)", str(inspect.signature(Web)))
        for name, expected in METHODS.items():
            self.assertIn(name, vars(Web))
            self.assertEqual(expected, str(inspect.signature(getattr(Web, name))), name)
        for name in ("__len__", "__repr__", "__eq__", "__contains__", "parity"):
            self.assertIn(name, vars(Web))
        self.assertIsInstance(vars(Web)["empty"], staticmethod)
        for name in ("complete", "bipartite", "parse"):
            self.assertIsInstance(vars(Web)[name], classmethod)

    def test_words(self):
        for name, expected in WORD_FUNCTIONS.items():
            function = getattr(words, name)
            self.assertEqual("threadmark.words", function.__module__)
            self.assertEqual(expected, str(inspect.signature(function)), name)

    def test_files_do_not_define_errors(self):
        for module in (webs, words):
            for name, value in vars(module).items():
                if isinstance(value, type) and issubclass(value, Exception):
                    self.assertEqual("threadmark.errors", value.__module__, name)
                    self.assertIs(getattr(errors, name), value)


class CallsByNameTest(unittest.TestCase):
    def setUp(self):
        self.web = Web(edges={"a": (0, 1), "b": (2, 1)}, marks={0: 1, 1: 0, 2: 1, 5: 0})

    def test_makers(self):
        self.assertEqual(Web.complete(3, odd=[2]), Web.complete(odd=[2], count=3))
        self.assertEqual(Web.complete(3, odd=[]), Web.complete(count=3))
        self.assertEqual(Web.bipartite(2, 3, odd=(4,)), Web.bipartite(odd=(4,), second=3, first=2))
        self.assertEqual(Web.bipartite(2, 3, odd=()), Web.bipartite(second=3, first=2))
        self.assertEqual(self.web, Web.parse(text=self.web.text()))

    def test_queries(self):
        web = self.web
        self.assertEqual((1, "ab"), (web.mark(node=2), web.edges_of(node=1)))
        self.assertEqual(((0, 1, 2), False), (web.component_of(node=2), web.is_odd(node=2)))
        self.assertEqual(((1, 2), True), (web.ends(edge="b"), web.touch(other="a", one="b")))
        raised(self, errors.UnknownEdge, lambda: web.touch(other="y", one="z"), "z")

    def test_changes(self):
        web = self.web
        self.assertEqual(web.with_node(7, mark=1), web.with_node(mark=1, node=7))
        self.assertEqual(web.with_node(7, mark=0), web.with_node(node=7))
        self.assertEqual(web.without_node(5), web.without_node(node=5))
        self.assertEqual(web.turned(5), web.turned(node=5))
        self.assertEqual(web.with_edge("d", 0, 5), web.with_edge(other=5, one=0, edge="d"))
        raised(self, errors.UnknownNode, lambda: web.with_edge(other=8, one=7, edge="d"), 7)
        self.assertEqual(web.cut("a"), web.cut(edge="a"))
        self.assertEqual(web.contracted("a"), web.contracted(edge="a"))

    def test_words(self):
        self.assertIsNone(words.check_word(word="-ab", web=self.web))
        raised(self, errors.InvalidWord, lambda: words.check_word(word="abc", web=self.web), 2)
        self.assertEqual("-ba", words.inverse(word="-ab"))
        self.assertEqual("-b", words.reduced(word="-aab"))
        self.assertEqual("-b", words.cut_word(edge="a", word="-aba"))
        self.assertEqual("b", words.contract_word(edge="a", word="-ab", web=self.web))

    def test_equal_arguments_give_equal_results(self):
        twin = Web({5: 0, 2: 1, 1: 0, 0: 1}, {"b": (1, 2), "a": (1, 0)})
        for name in ("nodes", "edges", "components", "notes", "text"):
            self.assertEqual(getattr(self.web, name)(), getattr(twin, name)())


if __name__ == "__main__":
    unittest.main()
