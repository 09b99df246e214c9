import inspect
import unittest

from samples import check_functions, raised
from threadmark import carry, equality, errors, realizations
from threadmark.webs import Web

FUNCTIONS = {
    realizations: {
        "find_table": "(web)",
    },
    equality: {
        "compare_words": "(web, one, other)",
        "check_comparison": "(web, one, other, answer)",
    },
    carry: {
        "carry_cut": "(web, steps, edge, *, word='')",
        "carry_contract": "(web, steps, edge, *, word='')",
        "restore_cut": "(web, table, edge)",
        "restore_contraction": "(web, table, edge)",
    },
}


class InterfaceTest(unittest.TestCase):
    def test_functions(self):
        check_functions(self, FUNCTIONS)

    def test_word_by_name_only(self):
        for function in (carry.carry_cut, carry.carry_contract):
            self.assertEqual(inspect.Parameter.KEYWORD_ONLY, inspect.signature(function).parameters["word"].kind)
            with self.assertRaises(TypeError):
                function(Web.complete(3), [], "a", "b")


class CallsByNameTest(unittest.TestCase):
    def setUp(self):
        self.web = Web({0: 1, 1: 1, 2: 0}, {"b": (1, 2), "a": (0, 1), "c": (2, 1)})

    def test_realizations(self):
        self.assertEqual(["a", "b", "c"], sorted(realizations.find_table(web=self.web)))

    def test_equality(self):
        answer = equality.compare_words(other="-", one="a", web=self.web)
        self.assertEqual("same", answer[0])
        self.assertIs(True, equality.check_comparison(answer=answer, other="-", one="a", web=self.web))
        raised(self, errors.InvalidWord, lambda: equality.compare_words(other="y", one="ay", web=self.web), 1)
        call = equality.check_comparison
        raised(self, errors.InvalidWord, lambda: call(answer=answer, other="aby", one="", web=self.web), 2)

    def test_carry(self):
        web = self.web
        steps = [("insert", 0, "b")]
        self.assertEqual([], carry.carry_cut(edge="b", steps=steps, web=web))
        found = carry.carry_cut(word="ba", edge="b", steps=[("insert", 2, "a")], web=web)
        self.assertEqual([("insert", 1, "a")], found)
        self.assertEqual([("insert", 0, "b")], carry.carry_contract(edge="a", steps=steps, web=web))
        found = carry.carry_contract(word="aa", edge="a", steps=[("insert", 2, "b")], web=web)
        self.assertEqual([("insert", 0, "b")], found)
        raised(self, errors.UnknownEdge, lambda: carry.carry_cut(word="y", edge="d", steps=[()], web=web), "d")

    def test_restore(self):
        web = self.web
        found = carry.restore_cut(edge="b", table={"a": "-X", "c": "1"}, web=web)
        self.assertEqual({"a": "-X", "b": "1", "c": "1"}, found)
        found = carry.restore_contraction(edge="a", table={"c": "Z", "b": "X"}, web=web)
        self.assertEqual({"a": "-1", "b": "X", "c": "Z"}, found)

    def test_returned_values_are_new(self):
        web = self.web
        table = {"c": "X", "b": "X"}
        for call in (
            lambda: realizations.find_table(web),
            lambda: equality.compare_words(web, "b", "")[1],
            lambda: carry.carry_cut(web, [("insert", 0, "a")], "b"),
            lambda: carry.carry_contract(web, [("insert", 0, "a")], "b"),
            lambda: carry.restore_cut(web, table, "a"),
            lambda: carry.restore_contraction(web, table, "a"),
        ):
            self.assertEqual(call(), call())
            self.assertIsNot(call(), call())
        self.assertEqual({"c": "X", "b": "X"}, table)

    def test_carried_steps_are_new_lists(self):
        # Where nothing has to change, the list is still another one.
        steps = [("insert", 0, "a")]
        for function in (carry.carry_cut, carry.carry_contract):
            found = function(self.web, steps, "b")
            self.assertEqual(steps, found)
            self.assertIsNot(steps, found)


if __name__ == "__main__":
    unittest.main()
