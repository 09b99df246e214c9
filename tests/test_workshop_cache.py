import unittest

from samples import raised
from threadmark import workshop
from threadmark.certificates import Derivation, TableCertificate
from threadmark.errors import InvalidCommand, UnknownEdge, UnknownWeb
from threadmark.webs import Web
from threadmark.workshop import Workshop


class CacheTest(unittest.TestCase):
    def setUp(self):
        self.shop = Workshop()
        self.shop.apply_all([
            ("add", "k", Web.complete(3, odd=[0])),
            ("add", "m", Web.complete(5, odd=[0])),
            ("add", "n", Web.empty()),
        ])

    def ask_all(self):
        return [self.shop.certificate(name) for name in self.shop.names()]

    def state(self):
        return self.shop.cached(), self.shop.computations()

    def test_a_second_request_computes_nothing(self):
        self.assertEqual(([], 0), self.state())
        first = self.ask_all()
        self.assertEqual([Derivation, TableCertificate, TableCertificate], [found.__class__ for found in first])
        self.assertEqual((["k", "m", "n"], 3), self.state())
        computed = []
        kept = workshop.certificate_of
        workshop.certificate_of = lambda web: computed.append(web) or kept(web)
        try:
            again = self.ask_all()
            self.assertEqual([], computed)
            self.shop.apply(("node", "n", 0))
            self.ask_all()
            self.assertEqual(["0"], [web.text() for web in computed])
        finally:
            workshop.certificate_of = kept
        self.assertEqual([found.describe() for found in first], [found.describe() for found in again])
        self.assertEqual((["k", "m", "n"], 4), self.state())

    def test_certificates_are_of_the_present_webs(self):
        self.assertEqual("derivation", self.shop.certificate("k").LABEL)
        self.shop.apply(("turn", "k", 1))
        self.assertEqual("table", self.shop.certificate("k").LABEL)
        self.assertEqual(self.shop.web("k"), self.shop.certificate("k").web())
        self.shop.undo()
        self.assertEqual("derivation", self.shop.certificate("k").LABEL)
        self.assertEqual(3, self.shop.computations())

    def test_a_step_drops_what_differs(self):
        for command, dropped in (
            (("turn", "k", 0), "k"),
            (("cut", "m", "a"), "m"),
            (("contract", "m", "b"), "m"),
            (("node", "n", 3), "n"),
            (("remove", "n"), "n"),
            (("copy", "k", "b"), ""),
            (("add", "b", Web.empty()), ""),
            (("link", "k", "x", 0, 1), "k"),
        ):
            self.ask_all()
            count = self.shop.computations()
            self.shop.apply(command)
            left = [name for name in "kmn" if name != dropped]
            self.assertEqual((left, count), self.state(), command)
            self.ask_all()
            self.shop.undo()
            # Undoing drops the certificate of the other web under this name, and that of a name that is gone.
            self.assertEqual(left, self.shop.cached(), command)
            self.ask_all()
            self.shop.redo()
            self.assertEqual(left, self.shop.cached(), command)
            self.shop.undo()

    def test_lists_that_change_back(self):
        self.ask_all()
        turn = ("turn", "k", 1)
        web = self.shop.web("m")
        for commands in (
            [],
            [turn, turn],
            [("remove", "m"), ("add", "m", web)],
            [("copy", "n", "b"), ("remove", "n"), ("copy", "b", "n"), ("remove", "b")],
            [("cut", "k", "c"), ("link", "k", "c", 2, 1)],
            [("remove", "k"), ("add", "k", Web({2: 0, 1: 0, 0: 1}, {"c": (2, 1), "a": (1, 0), "b": (0, 2)}))],
        ):
            self.shop.apply_all(commands)
            self.assertEqual((["k", "m", "n"], 3), self.state())
            self.shop.undo()
            self.assertEqual((["k", "m", "n"], 3), self.state())
            self.shop.redo()
            self.assertEqual((["k", "m", "n"], 3), self.state())
        self.shop.apply_all([turn, ("remove", "m"), ("copy", "k", "m")])
        self.assertEqual((["n"], 3), self.state())

    def test_two_steps_are_compared_one_by_one(self):
        self.ask_all()
        self.shop.apply(("turn", "k", 1))
        self.shop.apply(("turn", "k", 1))
        self.assertEqual((["m", "n"], 3), self.state())

    def test_trials_and_errors_drop_nothing(self):
        self.shop.certificate("k")
        for commands in ([("turn", "k", 0)], [("remove", "k")], [("copy", "k", "b")], []):
            self.shop.trial(commands)
            self.assertEqual((["k"], 1), self.state())
        wrong = [("turn", "k", 0), ("cut", "m", "x")]
        raised(self, UnknownEdge, lambda: self.shop.trial(wrong), "x")
        raised(self, UnknownEdge, lambda: self.shop.apply_all(wrong), "x")
        raised(self, InvalidCommand, lambda: self.shop.apply_all(wrong + [()]), 2)
        raised(self, UnknownWeb, lambda: self.shop.certificate("b"), "b")
        self.assertEqual((["k"], 1), self.state())

    def test_other_queries_compute_nothing(self):
        self.shop.listing()
        self.shop.names()
        self.shop.web("k")
        self.shop.history()
        self.shop.set_limit(5)
        self.assertEqual(([], 0), self.state())

    def test_undone_webs(self):
        self.ask_all()
        self.shop.undo()
        self.assertEqual(([], 3), self.state())
        self.shop.redo()
        self.assertEqual(([], 3), self.state())
        raised(self, UnknownWeb, lambda: self.shop.certificate("b"), "b")

    def test_returned_values_may_be_changed(self):
        found = self.shop.certificate("k")
        found.steps().clear()
        self.shop.certificate("m").table().clear()
        self.assertIs(True, self.shop.certificate("k").is_valid())
        self.assertIs(True, self.shop.certificate("m").is_valid())
        self.shop.cached().clear()
        self.shop.names().clear()
        self.assertEqual((["k", "m"], 2), self.state())
        self.assertEqual(["k", "m", "n"], self.shop.names())


class CloneTest(unittest.TestCase):
    def test_clone(self):
        shop = Workshop()
        shop.apply(("add", "k", Web.complete(3, odd=[0])))
        shop.apply(("turn", "k", 0))
        shop.apply(("turn", "k", 1))
        shop.undo()
        shop.set_limit(5)
        shop.certificate("k")
        twin = shop.clone()
        self.assertIsNot(shop, twin)
        self.assertIs(True, shop == twin)
        for some in (shop, twin):
            self.assertEqual(((2, 1), 5, ["k"], 1), (some.history(), some.limit, some.cached(), some.computations()))
        twin.certificate("k")
        self.assertEqual(1, twin.computations())
        twin.undo()
        twin.set_limit(7)
        twin.certificate("k")
        self.assertEqual(((2, 1), 5, ["k"], 1), (shop.history(), shop.limit, shop.cached(), shop.computations()))
        self.assertEqual(((1, 2), 7, ["k"], 2), (twin.history(), twin.limit, twin.cached(), twin.computations()))
        self.assertIs(False, shop == twin)
        shop.apply(("remove", "k"))
        self.assertEqual((["k"], (1, 2)), (twin.names(), twin.history()))
        twin.redo()
        twin.redo()
        self.assertEqual("0 1* 2; a 0 1; b 0 2; c 1 2", twin.web("k").text())
        self.assertEqual(([], (3, 0)), (shop.names(), shop.history()))

    def test_caches_are_not_shared(self):
        shop = Workshop()
        shop.apply_all([("add", "k", Web.complete(3)), ("add", "m", Web.complete(3))])
        shop.certificate("k")
        twin = shop.clone()
        twin.certificate("m")
        self.assertEqual((["k"], 1), (shop.cached(), shop.computations()))
        self.assertEqual((["k", "m"], 2), (twin.cached(), twin.computations()))
        again = twin.clone()
        twin.apply(("turn", "k", 0))
        self.assertEqual((["m"], ["k", "m"]), (twin.cached(), again.cached()))

    def test_clone_of_an_empty_workshop(self):
        shop = Workshop()
        twin = shop.clone()
        twin.apply(("add", "k", Web.empty()))
        self.assertEqual(([], ["k"]), (shop.names(), twin.names()))
        self.assertEqual(((0, 0), (1, 0)), (shop.history(), twin.history()))


if __name__ == "__main__":
    unittest.main()
