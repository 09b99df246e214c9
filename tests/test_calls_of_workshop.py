import inspect
import unittest

from samples import check_functions, raised
from threadmark import certificates, console, documents, errors, workshop
from threadmark.webs import Web

FUNCTIONS = {
    certificates: {
        "certificate_of": "(web)",
    },
    documents: {
        "dump": "(workshop)",
        "load": "(text)",
    },
}
CLASSES = {
    certificates.Certificate: ("(web)", {"web": "(self)", "describe": "(self)", "is_valid": "(self)"}),
    certificates.Derivation: ("(web, steps)", {
        "__len__": "(self)",
        "steps": "(self)",
        "describe": "(self)",
        "is_valid": "(self)",
    }),
    certificates.TableCertificate: ("(web, table)", {
        "__call__": "(self, word)",
        "table": "(self)",
        "describe": "(self)",
        "is_valid": "(self)",
    }),
    workshop.Workshop: ("()", {
        "__len__": "(self)",
        "__repr__": "(self)",
        "__eq__": "(self, other)",
        "set_limit": "(self, value)",
        "apply": "(self, command)",
        "apply_all": "(self, commands)",
        "trial": "(self, commands)",
        "undo": "(self)",
        "redo": "(self)",
        "history": "(self)",
        "listing": "(self)",
        "names": "(self)",
        "web": "(self, name)",
        "certificate": "(self, name)",
        "cached": "(self)",
        "computations": "(self)",
        "clone": "(self)",
    }),
    console.Console: ("(workshop)", {"__len__": "(self)", "run": "(self, line)", "log": "(self)"}),
}
FILES = {
    certificates.Certificate: "threadmark.certificates",
    certificates.Derivation: "threadmark.certificates",
    certificates.TableCertificate: "threadmark.certificates",
    workshop.Workshop: "threadmark.workshop",
    console.Console: "threadmark.console",
}


class InterfaceTest(unittest.TestCase):
    def test_functions(self):
        check_functions(self, FUNCTIONS)

    def test_classes(self):
        for kind, (made, methods) in CLASSES.items():
            self.assertEqual(FILES[kind], kind.__module__)
            self.assertEqual(made, str(inspect.signature(kind)))
            for name, expected in methods.items():
                self.assertIn(name, vars(kind))
                self.assertEqual(expected, str(inspect.signature(vars(kind)[name])), name)

    def test_limit_is_a_property(self):
        self.assertIsInstance(vars(workshop.Workshop)["limit"], property)


class CallsByNameTest(unittest.TestCase):
    def setUp(self):
        self.web = Web({0: 1, 1: 0}, {"a": (0, 1)})

    def test_certificates(self):
        web = self.web
        self.assertEqual("derivation", certificates.certificate_of(web=web).LABEL)
        self.assertEqual(web, certificates.Certificate(web=web).web())
        self.assertEqual([("flip", 3)], certificates.Derivation(steps=[("flip", 3)], web=web).steps())
        found = certificates.TableCertificate(table={"a": "-X"}, web=web)
        self.assertEqual(({"a": "-X"}, "-1"), (found.table(), found(word="-aa")))

    def test_workshop(self):
        shop = workshop.Workshop()
        shop.apply(command=("add", "k", self.web))
        shop.apply_all(commands=[("turn", "k", 1)])
        self.assertEqual({"k": "0* 1; a 0 1"}, shop.trial(commands=(("turn", "k", 1),)))
        shop.set_limit(value=3)
        self.assertEqual(3, shop.limit)
        self.assertEqual("0* 1*; a 0 1", shop.web(name="k").text())
        self.assertEqual("table", shop.certificate(name="k").LABEL)
        raised(self, errors.UnknownWeb, lambda: shop.web(name="m"), "m")
        raised(self, errors.InvalidLimit, lambda: shop.set_limit(value=0), 0)

    def test_documents_and_console(self):
        shop = documents.load(text="k: 0* 1; a 0 1\n")
        self.assertEqual("k: 0* 1; a 0 1\n", documents.dump(workshop=shop))
        self.assertEqual("0* 1; a 0 1", console.Console(workshop=shop).run(line="show k"))

    def test_returned_values_are_new(self):
        shop = documents.load("k: 0* 1; a 0 1\nm: 0\n")
        shop.certificate("k")
        runner = console.Console(shop)
        runner.run("names")
        for call in (
            shop.names,
            shop.cached,
            shop.listing,
            lambda: shop.trial([]),
            runner.log,
            lambda: shop.certificate("k").steps(),
            lambda: shop.certificate("m").table(),
        ):
            self.assertEqual(call(), call())
            self.assertIsNot(call(), call())

    def test_edges_in_webs(self):
        self.assertEqual([True, False, False, False], [name in self.web for name in ("a", "b", "", "aa")])


if __name__ == "__main__":
    unittest.main()
