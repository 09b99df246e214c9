import unittest

from samples import check_functions, raised
from threadmark import derivations, errors, forms, notes, parity
from threadmark.webs import Web

FUNCTIONS = {
    derivations: {
        "derivation_of": "(web, node)",
        "find_derivation": "(web)",
    },
    parity: {
        "solve": "(equations, *, count)",
    },
    notes: {
        "collect": "(web, word)",
        "rule_notes": "(web, edge, node)",
        "component_notes": "(web, node)",
        "sum_of": "(lists)",
        "is_form": "(web, notes)",
        "note_certificate": "(web, node)",
        "check_note_certificate": "(web, node, certificate)",
        "is_planar_by_notes": "(web)",
    },
    forms: {
        "find_form": "(web)",
        "table_from_form": "(web, form)",
    },
}


class InterfaceTest(unittest.TestCase):
    def test_functions(self):
        check_functions(self, FUNCTIONS)


class CallsByNameTest(unittest.TestCase):
    def setUp(self):
        self.web = Web({0: 0, 1: 0, 2: 0, 3: 1}, {"a": (0, 1), "b": (2, 3)})

    def test_derivations(self):
        self.assertIsNone(derivations.derivation_of(node=0, web=self.web))
        expected = derivations.derivation_of(node=3, web=self.web)
        self.assertEqual(expected, derivations.find_derivation(web=self.web))
        raised(self, errors.UnknownNode, lambda: derivations.derivation_of(node=4, web=self.web), 4)

    def test_parity(self):
        self.assertEqual(("solution", [1]), parity.solve(count=2, equations=[([1], 1)]))

    def test_notes(self):
        web = self.web
        self.assertEqual((1, "ab", ["ab"]), notes.collect(word="-ba", web=web))
        self.assertEqual(["ab"], notes.rule_notes(node=3, edge="a", web=web))
        raised(self, errors.UnknownEdge, lambda: notes.rule_notes(node=9, edge="c", web=web), "c")
        self.assertEqual([], notes.component_notes(node=1, web=web))
        self.assertEqual(["ab"], notes.sum_of(lists=[["ab"]]))
        self.assertIs(False, notes.is_form(notes=["ab"], web=web))
        certificate = notes.note_certificate(node=1, web=web)
        self.assertIs(True, notes.check_note_certificate(certificate=certificate, node=1, web=web))
        self.assertIs(True, notes.is_planar_by_notes(web=web))

    def test_forms(self):
        self.assertIsNone(forms.find_form(web=self.web))
        five = Web.complete(5, odd=[0])
        form = forms.find_form(web=five)
        self.assertEqual(five.edges(), sorted(forms.table_from_form(form=form, web=five)))
        raised(self, errors.InvalidForm, lambda: forms.table_from_form(form=[], web=five))

    def test_returned_values_are_new(self):
        web = Web.complete(5, odd=[0])
        form = forms.find_form(web)
        for call in (
            lambda: forms.find_form(web),
            lambda: forms.table_from_form(web, form),
            lambda: notes.component_notes(web, 0),
            lambda: notes.note_certificate(web, 0)[1],
            lambda: derivations.find_derivation(web.cut("a")),
        ):
            self.assertEqual(call(), call())
            self.assertIsNot(call(), call())


if __name__ == "__main__":
    unittest.main()
