import random
import unittest

from samples import raised, random_parts, text
from shops import GOOD_NAMES, WRONG_NAMES, Fault, Model, malformed, random_command, random_commands, texts
from threadmark import errors
from threadmark.errors import (
    EmptyHistory,
    InvalidCommand,
    InvalidLimit,
    InvalidWebName,
    LimitExceeded,
    NameTaken,
    UnknownEdge,
    UnknownNode,
    UnknownWeb,
)
from threadmark.webs import Web
from threadmark.workshop import Workshop


class Twins:
    """A workshop and the model of it, which get the same calls."""

    def __init__(self, case, shop=None, model=None):
        self.case = case
        # A workshop without names is not true.
        self.shop = Workshop() if shop is None else shop
        self.model = Model() if model is None else model

    def call(self, name, *arguments):
        """Makes a call on both; returns the name of the error class, or None."""
        try:
            expected = getattr(self.model, name)(*arguments)
        except Fault as fault:
            kind, fields = fault.expected
            raised(self.case, getattr(errors, kind), lambda: getattr(self.shop, name)(*arguments), *fields)
            self.compare()
            return kind
        found = getattr(self.shop, name)(*arguments)
        if name == "certificate":
            self.case.assertIs(True, found.is_valid())
            self.case.assertEqual(self.shop.web(arguments[0]), found.web())
        else:
            self.case.assertEqual(expected, found)
        self.compare()
        return None

    def apply(self, command):
        """Like `call`, for one command, where the model knows lists only."""
        try:
            self.model.apply_all([command])
        except Fault as fault:
            kind, fields = fault.expected
            raised(self.case, getattr(errors, kind), lambda: self.shop.apply(command), *fields)
            self.compare()
            return kind
        self.case.assertIsNone(self.shop.apply(command))
        self.compare()
        return None

    def compare(self):
        """Checks everything that can be asked."""
        case, shop, model = self.case, self.shop, self.model
        names = sorted(model.webs)
        case.assertEqual(names, shop.names())
        case.assertEqual(texts(model.webs), {name: shop.web(name).text() for name in names})
        case.assertEqual(len(names), len(shop))
        case.assertEqual(f"Workshop({len(names)} webs)", repr(shop))
        case.assertEqual((len(model.past), len(model.future)), shop.history())
        case.assertEqual(model.limit, shop.limit)
        case.assertEqual(sorted(model.cached), shop.cached())
        case.assertEqual(model.computed, shop.computations())
        case.assertEqual(model.listing(), shop.listing())


class RandomCallsTest(unittest.TestCase):
    def step(self, rng, twins):
        """One call of some kind; returns its name and how it ended."""
        webs = twins.model.webs
        match rng.randint(0, 11):
            case 0 | 1 | 2 | 3:
                command = random_command(rng, webs)
                return command[0], twins.apply(command)
            case 4:
                return "malformed", twins.apply(malformed(rng, random_command(rng, webs)))
            case 5 | 6:
                commands = random_commands(rng, webs)
                if commands and rng.random() < 0.2:
                    at = rng.randrange(len(commands))
                    commands[at] = malformed(rng, commands[at])
                kept = list(commands)
                name = rng.choice(["apply_all", "trial"])
                ended = twins.call(name, rng.choice([list, tuple])(commands))
                self.assertEqual(kept, commands)
                return name, ended
            case 7:
                return "undo", twins.call("undo")
            case 8:
                return "redo", twins.call("redo")
            case 9:
                return "set_limit", twins.call("set_limit", rng.randint(-1, 14))
            case _:
                name = rng.choice(sorted(webs) or ["a"]) if rng.random() < 0.9 else rng.choice(WRONG_NAMES)
                return "certificate", twins.call("certificate", name)

    def test_random_calls(self):
        rng = random.Random(501)
        seen = {}
        for count in range(150):
            twins = Twins(self)
            for turn in range(80):
                ended = self.step(rng, twins)
                seen[ended] = seen.get(ended, 0) + 1
        for kind in ("add", "copy", "remove", "cut", "contract", "link", "node", "turn", "undo", "redo"):
            self.assertLess(20, seen.get((kind, None), 0), (kind, seen))
        for kind, error in (
            ("add", "InvalidWebName"), ("add", "NameTaken"), ("add", "LimitExceeded"),
            ("copy", "UnknownWeb"), ("copy", "InvalidWebName"), ("copy", "NameTaken"), ("copy", "LimitExceeded"),
            ("remove", "UnknownWeb"), ("cut", "UnknownWeb"), ("cut", "UnknownEdge"), ("contract", "UnknownWeb"),
            ("contract", "UnknownEdge"), ("link", "UnknownWeb"), ("link", "InvalidName"), ("link", "EdgeTaken"),
            ("link", "UnknownNode"), ("link", "InvalidEdge"), ("node", "UnknownWeb"), ("node", "InvalidNode"),
            ("node", "NodeTaken"), ("turn", "UnknownWeb"), ("turn", "UnknownNode"), ("malformed", "InvalidCommand"),
            ("apply_all", "InvalidCommand"), ("trial", "InvalidCommand"), ("apply_all", None), ("trial", None),
            ("undo", "EmptyHistory"), ("redo", "EmptyHistory"), ("set_limit", "InvalidLimit"), ("set_limit", None),
            ("certificate", None), ("certificate", "UnknownWeb"),
        ):
            self.assertLess(0, seen.get((kind, error), 0), (kind, error, seen))

    def test_clones_go_their_own_way(self):
        rng = random.Random(502)
        for count in range(20):
            twins = Twins(self)
            for turn in range(20):
                self.step(rng, twins)
            model = Model()
            for name in ("limit", "computed", "webs"):
                setattr(model, name, getattr(twins.model, name))
            model.past, model.future = list(twins.model.past), list(twins.model.future)
            model.cached = set(twins.model.cached)
            twin = twins.shop.clone()
            self.assertEqual(Workshop, twin.__class__)
            self.assertIs(True, twin == twins.shop)
            other = Twins(self, twin, model)
            other.compare()
            for turn in range(20):
                self.step(rng, rng.choice([twins, other]))
                twins.compare()
                other.compare()


class CommandTest(unittest.TestCase):
    def setUp(self):
        self.shop = Workshop()
        self.shop.apply(("add", "k", Web({0: 1, 1: 0, 2: 1}, {"a": (0, 1), "b": (1, 2), "c": (0, 1)})))

    def test_results(self):
        for command, name, expected in (
            (("add", "n", Web({3: 1}, {})), "n", "3*"),
            (("copy", "k", "m"), "m", "0* 1 2*; a 0 1; b 1 2; c 0 1"),
            (("cut", "k", "c"), "k", "0* 1 2*; a 0 1; b 1 2"),
            (("contract", "k", "a"), "k", "0* 2*; b 0 2"),
            (("link", "k", "x", 2, 0), "k", "0* 1 2*; a 0 1; b 1 2; c 0 1; x 0 2"),
            (("node", "k", 11), "k", "0* 1 2* 11; a 0 1; b 1 2; c 0 1"),
            (("turn", "k", 1), "k", "0* 1* 2*; a 0 1; b 1 2; c 0 1"),
        ):
            before = self.shop.web("k").text()
            self.assertIsNone(self.shop.apply(command))
            self.assertEqual(expected, self.shop.web(name).text())
            self.shop.undo()
            self.assertEqual([before], [self.shop.web("k").text()])
            self.assertEqual(["k"], self.shop.names())
        self.shop.apply(("remove", "k"))
        self.assertEqual([], self.shop.names())

    def test_errors_in_order(self):
        shop = self.shop
        web = Web.empty()
        shop.set_limit(1)
        for command, error, *fields in (
            (("add", "K", web), InvalidWebName, "K"),
            (("add", "k", web), NameTaken, "k"),
            (("add", "m", web), LimitExceeded, 1),
            (("copy", "m", "K"), UnknownWeb, "m"),
            (("copy", "k", "K"), InvalidWebName, "K"),
            (("copy", "k", "k"), NameTaken, "k"),
            (("copy", "k", "m"), LimitExceeded, 1),
            (("remove", "m"), UnknownWeb, "m"),
            (("cut", "m", "z"), UnknownWeb, "m"),
            (("cut", "k", "z"), UnknownEdge, "z"),
            (("contract", "", "z"), UnknownWeb, ""),
            (("contract", "k", "d"), UnknownEdge, "d"),
            (("link", "m", "z", 7, 7), UnknownWeb, "m"),
            (("link", "k", "z", 7, 7), errors.InvalidName, "z"),
            (("link", "k", "a", 7, 7), errors.EdgeTaken, "a"),
            (("link", "k", "d", 7, 8), UnknownNode, 7),
            (("link", "k", "d", 0, 8), UnknownNode, 8),
            (("link", "k", "d", 1, 1), errors.InvalidEdge, "d"),
            (("node", "m", 12), UnknownWeb, "m"),
            (("node", "k", 12), errors.InvalidNode, 12),
            (("node", "k", -1), errors.InvalidNode, -1),
            (("node", "k", 2), errors.NodeTaken, 2),
            (("turn", "m", 5), UnknownWeb, "m"),
            (("turn", "k", 5), UnknownNode, 5),
        ):
            text_before = shop.web("k").text()
            raised(self, error, lambda: shop.apply(command), *fields)
            raised(self, error, lambda: shop.apply_all([("turn", "k", 0), command]), *fields)
            raised(self, error, lambda: shop.trial((("turn", "k", 0), command)), *fields)
            self.assertEqual((text_before, ["k"], (1, 0)), (shop.web("k").text(), shop.names(), shop.history()))

    def test_names(self):
        shop = Workshop()
        shop.set_limit(12)
        for name in GOOD_NAMES:
            shop.apply(("add", name, Web.empty()))
        for name in WRONG_NAMES:
            raised(self, InvalidWebName, lambda: shop.apply(("add", name, Web.empty())), name)
            raised(self, InvalidWebName, lambda: shop.apply(("copy", "a", name)), name)
            raised(self, UnknownWeb, lambda: shop.web(name), name)
            raised(self, UnknownWeb, lambda: shop.certificate(name), name)
        self.assertEqual(sorted(GOOD_NAMES), shop.names())

    def test_malformed_commands_come_first(self):
        shop = self.shop
        good = ("turn", "k", 0)
        failing = ("turn", "k", 9)
        for wrong in ((), ("",), ("turn",), ("turn", "k"), ("turn", "k", 0, 0), ("Turn", "k", 0), ("add", "m"),
                      ("copy", "k"), ("remove",), ("remove", "k", "k"), ("cut", "k"), ("contract", "k", "a", "b"),
                      ("link", "k", "d", 0), ("link", "k", "d", 0, 1, 2), ("node", "k"), ("undo",), ("apply", good)):
            raised(self, InvalidCommand, lambda: shop.apply(wrong), 0)
            for commands in ([wrong], [good, wrong], [failing, wrong], [failing, good, wrong, ()], [good, good, wrong]):
                index = commands.index(wrong)
                raised(self, InvalidCommand, lambda: shop.apply_all(commands), index)
                raised(self, InvalidCommand, lambda: shop.trial(tuple(commands)), index)
        self.assertEqual((1, 0), shop.history())
        self.assertEqual("0* 1 2*; a 0 1; b 1 2; c 0 1", shop.web("k").text())

    def test_lists_see_their_own_changes(self):
        commands = [("copy", "k", "m"), ("cut", "m", "a"), ("remove", "k"), ("add", "k", Web({5: 0}, {}))]
        commands.append(("turn", "k", 5))
        expected = {"k": "5*", "m": "0* 1 2*; b 1 2; c 0 1"}
        self.assertEqual(expected, self.shop.trial(commands))
        self.assertEqual((["k"], (1, 0)), (self.shop.names(), self.shop.history()))
        self.shop.apply_all(commands)
        self.assertEqual(expected, {name: self.shop.web(name).text() for name in self.shop.names()})
        self.assertEqual((2, 0), self.shop.history())
        self.shop.undo()
        self.assertEqual(["k"], self.shop.names())

    def test_trial(self):
        first = self.shop.trial([])
        self.assertEqual({"k": "0* 1 2*; a 0 1; b 1 2; c 0 1"}, first)
        first.clear()
        self.assertEqual({}, self.shop.trial([("remove", "k")]))
        self.assertEqual({}, Workshop().trial(()))
        self.assertEqual((1, 0), self.shop.history())

    def test_a_web_that_was_added_is_kept(self):
        marks, edges = {0: 1, 1: 0}, {"a": (0, 1)}
        web = Web(marks, edges)
        self.shop.apply(("add", "m", web))
        marks[0] = 0
        edges.clear()
        self.assertEqual("0* 1; a 0 1", self.shop.web("m").text())
        self.shop.apply(("cut", "m", "a"))
        self.assertEqual("0* 1; a 0 1", web.text())


class HistoryTest(unittest.TestCase):
    def test_long_history(self):
        rng = random.Random(503)
        shop = Workshop()
        shop.apply(("add", "k", Web.complete(4)))
        seen = [{}, {"k": shop.web("k").text()}]
        for count in range(300):
            shop.apply(("turn", "k", rng.randrange(4)))
            seen.append({"k": shop.web("k").text()})
        self.assertEqual((301, 0), shop.history())
        for turn in range(2):
            for at in reversed(range(301)):
                self.assertIsNone(shop.undo())
                self.assertEqual(seen[at], shop.trial([]))
                self.assertEqual((at, 301 - at), shop.history())
            raised(self, EmptyHistory, shop.undo)
            for at in range(1, 302):
                self.assertIsNone(shop.redo())
                self.assertEqual(seen[at], shop.trial([]))
            raised(self, EmptyHistory, shop.redo)
            self.assertEqual((301, 0), shop.history())

    def test_redo_is_gone_after_another_step(self):
        shop = Workshop()
        shop.apply(("add", "k", Web.complete(3)))
        shop.apply(("turn", "k", 0))
        shop.undo()
        self.assertEqual((1, 1), shop.history())
        raised(self, UnknownNode, lambda: shop.apply(("turn", "k", 9)), 9)
        shop.trial([("turn", "k", 1)])
        self.assertEqual((1, 1), shop.history())
        shop.apply_all([])
        self.assertEqual((2, 0), shop.history())
        raised(self, EmptyHistory, shop.redo)
        shop.undo()
        self.assertEqual((1, 1), shop.history())
        self.assertEqual({"k": "0 1 2; a 0 1; b 0 2; c 1 2"}, shop.trial([]))

    def test_an_empty_list_is_a_step(self):
        shop = Workshop()
        for commands in ([], ()):
            self.assertIsNone(shop.apply_all(commands))
        self.assertEqual((2, 0), shop.history())
        shop.undo()
        shop.undo()
        raised(self, EmptyHistory, shop.undo)
        shop.redo()
        self.assertEqual((1, 1), shop.history())

    def test_new_workshop(self):
        shop = Workshop()
        self.assertEqual((0, 0), shop.history())
        raised(self, EmptyHistory, shop.undo)
        raised(self, EmptyHistory, shop.redo)
        self.assertEqual([[], [], [], 0, 8, 0], [
            shop.names(), shop.cached(), shop.listing(), shop.computations(), shop.limit, len(shop),
        ])
        self.assertEqual("Workshop(0 webs)", repr(shop))
        self.assertEqual([12, 12], [Workshop.MAX_LIMIT, shop.MAX_LIMIT])


class LimitTest(unittest.TestCase):
    def filled(self, count):
        shop = Workshop()
        shop.set_limit(12)
        shop.apply_all([("add", "abcdefghijkl"[at], Web.empty()) for at in range(count)])
        return shop

    def test_values(self):
        for count in range(13):
            for value in list(range(-1, 15)) + [10 ** 29, -10 ** 29]:
                for assign in (lambda shop: shop.set_limit(value), lambda shop: setattr(shop, "limit", value)):
                    shop = self.filled(count)
                    if max(1, count) <= value <= 12:
                        self.assertIsNone(assign(shop))
                        self.assertEqual(value, shop.limit)
                    else:
                        raised(self, InvalidLimit, lambda: assign(shop), value)
                        self.assertEqual(12, shop.limit)
                    self.assertEqual((1, 0), shop.history())

    def test_first_limit(self):
        shop = Workshop()
        for name in "abcdefgh":
            shop.apply(("add", name, Web.empty()))
        raised(self, LimitExceeded, lambda: shop.apply(("add", "i", Web.empty())), 8)
        raised(self, LimitExceeded, lambda: shop.apply(("copy", "a", "i")), 8)
        self.assertEqual(8, len(shop))

    def test_in_the_middle_of_a_list(self):
        shop = self.filled(3)
        shop.set_limit(4)
        fine = [("copy", "a", "m"), ("remove", "a"), ("add", "n", Web.empty())]
        self.assertEqual(["b", "c", "m", "n"], sorted(shop.trial(fine)))
        raised(self, LimitExceeded, lambda: shop.apply_all([fine[0], fine[2], fine[1]]), 4)
        raised(self, LimitExceeded, lambda: shop.trial([fine[0], fine[2], fine[1]]), 4)
        self.assertEqual(["a", "b", "c"], shop.names())
        shop.apply_all(fine)
        self.assertEqual(4, len(shop))

    def test_the_limit_is_no_part_of_the_steps(self):
        shop = self.filled(3)
        shop.apply_all([("remove", "a"), ("remove", "b")])
        shop.set_limit(1)
        self.assertEqual((2, 0), shop.history())
        # Undo and redo do not look at the limit.
        shop.undo()
        self.assertEqual((3, 1), (len(shop), shop.limit))
        raised(self, LimitExceeded, lambda: shop.apply(("add", "m", Web.empty())), 1)
        raised(self, InvalidLimit, lambda: shop.set_limit(2), 2)
        raised(self, InvalidLimit, lambda: shop.set_limit(1), 1)
        shop.set_limit(3)
        shop.undo()
        self.assertEqual((0, 3), (len(shop), shop.limit))
        shop.redo()
        shop.redo()
        self.assertEqual((["c"], 3), (shop.names(), shop.limit))


class ListingTest(unittest.TestCase):
    def test_columns(self):
        rng = random.Random(504)
        for count in range(60):
            shop = Workshop()
            kept = {}
            for name in rng.sample(["a", "bc", "def", "ghij", "klmno", "pqrstu", "z"], rng.randint(0, 7)):
                kept[name] = random_parts(rng, rng.randint(0, 12), rng.randint(0, 24))
                shop.apply(("add", name, Web(*kept[name])))
            lines = shop.listing()
            self.assertEqual(len(kept), len(lines))
            for name, line in zip(sorted(kept), lines):
                marks, edges = kept[name]
                self.assertEqual(name, line[:6].rstrip())
                self.assertEqual([" ", " ", " "], [line[6], line[9], line[12]])
                self.assertEqual((len(marks), len(edges)), (int(line[7:9]), int(line[10:12])))
                self.assertEqual(line[7:9].strip().rjust(2), line[7:9])
                self.assertEqual(text(kept[name])[:24], line[13:])

    def test_known_lines(self):
        shop = Workshop()
        shop.apply(("add", "m", Web.empty()))
        shop.apply(("add", "abcdef", Web({node: 1 for node in range(12)}, {"a": (0, 11)})))
        shop.apply(("add", "k", Web.bipartite(4, 6)))
        self.assertEqual([
            "abcdef 12 01 0* 1* 2* 3* 4* 5* 6* 7* ",
            "k      10 24 0 1 2 3 4 5 6 7 8 9; a 0",
            "m       0 00 ",
        ], shop.listing())
        shop.listing().clear()
        self.assertEqual(3, len(shop.listing()))


class EqualityTest(unittest.TestCase):
    def test_names_and_webs_alone(self):
        one, other = Workshop(), Workshop()
        self.assertIs(True, one == other)
        one.apply_all([])
        one.set_limit(3)
        self.assertIs(True, one == other)
        one.apply_all([("add", "k", Web({0: 1, 1: 0}, {"a": (0, 1)})), ("add", "m", Web.empty())])
        self.assertIs(False, one == other)
        self.assertIs(True, one != other)
        other.apply(("add", "m", Web.empty()))
        other.apply(("add", "k", Web({1: 0, 0: 1}, {"a": (1, 0)})))
        self.assertIs(True, one == other)
        self.assertIs(False, one != other)
        one.certificate("k")
        self.assertIs(True, one == other)
        other.apply(("turn", "k", 1))
        self.assertIs(False, one == other)
        other.undo()
        self.assertIs(True, one == other)
        other.apply_all([("copy", "k", "n"), ("remove", "m")])
        self.assertIs(False, one == other)

    def test_other_values(self):
        shop = Workshop()
        for value in (None, 0, "", [], {}, (), "Workshop(0 webs)", Web.empty()):
            self.assertIs(False, shop == value)
            self.assertIs(True, shop != value)
            self.assertIs(False, value == shop)


if __name__ == "__main__":
    unittest.main()
