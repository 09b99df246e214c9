import random
import re
import unittest

from counting import has_flat_odd_component
from samples import NAMES, random_parts, random_word, text
from shapes import evened, mixed_parts, several_parts
from shops import GOOD_NAMES, Fault, Model, random_command, texts
from threadmark.console import Console
from threadmark.equality import compare_words
from threadmark.errors import ParseError
from threadmark.layouts import find_drawing
from threadmark.webs import Web
from threadmark.workshop import Workshop

WORD = "([^ ]+)"
NUMBER = "(0|[1-9][0-9]?)"
FORMS = {
    f"add {WORD}((?: [^ ]+)*)": "add",
    f"copy {WORD} {WORD}": "copy",
    f"remove {WORD}": "remove",
    f"cut {WORD} {WORD}": "cut",
    f"contract {WORD} {WORD}": "contract",
    f"link {WORD} {WORD} {NUMBER} {NUMBER}": "link",
    f"node {WORD} {NUMBER}": "node",
    f"turn {WORD} {NUMBER}": "turn",
    "undo": "undo",
    "redo": "redo",
    "names": "names",
    f"show {WORD}": "show",
    f"decide {WORD}": "decide",
    f"flat {WORD}": "flat",
    f"equal {WORD} {WORD} {WORD}": "equal",
}


def known_web(model, name):
    if name not in model.webs:
        raise Fault("UnknownWeb", name)
    return model.webs[name]


def equal(parts, words):
    """The answer to `equal`."""
    words = ["" if word == "." else word for word in words]
    for word in words:
        if set(word.removeprefix("-")) - set(parts[1]):
            raise Fault("InvalidWord")
    if has_flat_odd_component(parts):
        raise Fault("NoTable")
    return "yes" if compare_words(Web(*parts), *words)[0] == "same" else "no"


def done(model, kind, parts):
    """What a line of a documented form answers, by the model of the workshop."""
    match kind, parts:
        case "add", [name, written]:
            try:
                web = Web.parse(written[1:])
            except ParseError:
                return "invalid"
            model.apply_all([("add", name, web)])
        case "link", [name, edge, one, other]:
            model.apply_all([("link", name, edge, int(one), int(other))])
        case ("node" | "turn"), [name, node]:
            model.apply_all([(kind, name, int(node))])
        case ("copy" | "remove" | "cut" | "contract"), _:
            model.apply_all([(kind, *parts)])
        case "undo", _:
            model.undo()
        case "redo", _:
            model.redo()
        case "names", _:
            return " ".join(sorted(model.webs)) or "none"
        case "show", [name]:
            return text(known_web(model, name)) or "empty"
        case "decide", [name]:
            model.certificate(name)
            return "derivation" if has_flat_odd_component(model.webs[name]) else "table"
        case "flat", [name]:
            return "no" if find_drawing(Web(*known_web(model, name))) is None else "yes"
        case "equal", [name, one, other]:
            return equal(known_web(model, name), [one, other])
    return "ok"


def answer(model, line):
    """The answer that the document asks for."""
    for form, kind in FORMS.items():
        found = re.fullmatch(form, line)
        if found:
            try:
                return done(model, kind, list(found.groups()))
            except Fault as fault:
                return "error " + fault.expected[0].lower()
    return "invalid"


def random_line(rng, webs):
    """A line that fits more often than not."""
    name = rng.choice(sorted(webs) * 5 + ["q", "K", "k\n", "."])
    names = list(webs.get(name, ({}, {}))[1]) or ["a"]
    match rng.randint(0, 11):
        case 0 | 1:
            fresh = rng.choice(GOOD_NAMES + ["K9", "toolong"])
            parts = rng.choice([several_parts(rng), mixed_parts(rng), random_parts(rng, 8, 10)])
            return f"add {fresh} {text(rng.choice([evened, tuple])(parts))}".rstrip(" ")
        case 2 | 3 | 4 | 5:
            command = ("add",)
            while command[0] == "add" or "" in command or any(" " in str(item) for item in command):
                command = random_command(rng, webs)
            return " ".join(str(item) for item in command)
        case 6:
            return rng.choice(["undo", "redo", "names"])
        case 7 | 8:
            return rng.choice(["show ", "decide ", "flat "]) + name
        case 9:
            one = random_word(rng, names, 4)
            other = rng.choice([one, random_word(rng, names, 4), "-" + one, one + "y", "-."])
            return f"equal {name} {one or '.'} {other or '.'}"
        case 10:
            return f"turn {name} {rng.choice([0, 1, 2, 11, 12, 99, '00', '-1', '+1', '01', '100', 'a', '1.'])}"
        case 11:
            return f"link {name} {rng.choice(NAMES)} {rng.randint(0, 13)} {rng.choice([0, 1, 2, '02', '-2', 'b'])}"


def spoiled_line(rng, line):
    """A line with words removed, added or exchanged, or with another character."""
    words = line.split(" ")
    at = rng.randrange(len(words))
    match rng.randint(0, 5):
        case 0:
            del words[at]
        case 1:
            words.insert(at, rng.choice(["", "k", "0", "a", "undo", ".", "\n", ";"]))
        case 2:
            other = rng.randrange(len(words))
            words[at], words[other] = words[other], words[at]
        case 3:
            words[at] += "\n"
        case 4:
            words[at] = words[at].upper()
        case 5:
            where = rng.randint(0, len(line))
            return line[:where] + rng.choice(" \n0;*.-~") + line[where + rng.randint(0, 1):]
    return " ".join(words)


class ConsoleTest(unittest.TestCase):
    def compare(self, shop, model):
        self.assertEqual(texts(model.webs), {name: shop.web(name).text() for name in shop.names()})
        self.assertEqual((len(model.past), len(model.future)), shop.history())
        self.assertEqual((sorted(model.cached), model.computed), (shop.cached(), shop.computations()))

    def test_random_lines(self):
        rng = random.Random(551)
        seen = {}
        for count in range(60):
            shop, model = Workshop(), Model()
            consoles = [Console(shop), Console(workshop=shop)]
            logs = [[], []]
            for turn in range(60):
                line = random_line(rng, model.webs)
                if rng.random() < 0.3:
                    line = spoiled_line(rng, line)
                at = rng.choice([0, 0, 0, 1])
                expected = answer(model, line)
                self.assertEqual(expected, consoles[at].run(line), line)
                logs[at].append((line, expected))
                self.compare(shop, model)
                kind = (line.split(" ")[0], expected)
                seen[kind] = seen.get(kind, 0) + 1
            for console, log in zip(consoles, logs):
                self.assertEqual(log, console.log())
                self.assertEqual(len(log), len(console))
        for first in "add copy remove cut contract link node turn undo redo".split():
            self.assertLess(2, seen.get((first, "ok"), 0), first)
        for kind in (
            ("decide", "derivation"), ("decide", "table"), ("flat", "yes"), ("flat", "no"), ("equal", "yes"),
            ("equal", "no"), ("equal", "error notable"), ("equal", "error invalidword"), ("equal", "error unknownweb"),
            ("show", "error unknownweb"), ("decide", "error unknownweb"), ("flat", "error unknownweb"),
            ("add", "invalid"), ("link", "invalid"), ("turn", "invalid"), ("turn", "error unknownnode"),
            ("undo", "error emptyhistory"), ("redo", "error emptyhistory"), ("add", "error nametaken"),
        ):
            self.assertLess(0, seen.get(kind, 0), kind)

    def test_every_form(self):
        console = Console(Workshop())
        k5 = text(({node: int(node == 0) for node in range(5)},
                   dict(zip(NAMES, [(i, j) for i in range(5) for j in range(i + 1, 5)]))))
        for line, expected in (
            ("names", "none"),
            ("add k 0* 1; a 0 1", "ok"),
            ("add m", "ok"),
            (f"add five {k5}", "ok"),
            ("names", "five k m"),
            ("show k", "0* 1; a 0 1"),
            ("show m", "empty"),
            ("show five", k5),
            ("decide k", "derivation"),
            ("decide m", "table"),
            ("decide five", "table"),
            ("flat k", "yes"),
            ("flat m", "yes"),
            ("flat five", "no"),
            ("equal k a a", "error notable"),
            ("turn k 1", "ok"),
            ("equal k a -", "yes"),
            ("equal k a .", "no"),
            ("equal k . .", "yes"),
            ("equal k - .", "no"),
            ("equal m . .", "yes"),
            ("equal five ah ha", "no"),
            ("equal five ahah -", "yes"),
            ("copy k kk", "ok"),
            ("node kk 11", "ok"),
            ("link kk x 11 0", "ok"),
            ("show kk", "0* 1* 11; a 0 1; x 0 11"),
            ("contract kk x", "ok"),
            ("show kk", "0* 1*; a 0 1"),
            ("cut kk a", "ok"),
            ("show kk", "0* 1*"),
            ("decide kk", "derivation"),
            ("undo", "ok"),
            ("show kk", "0* 1*; a 0 1"),
            ("redo", "ok"),
            ("redo", "error emptyhistory"),
            ("remove kk", "ok"),
            ("show kk", "error unknownweb"),
            ("names", "five k m"),
        ):
            self.assertEqual(expected, console.run(line), line)

    def test_errors(self):
        shop = Workshop()
        console = Console(shop)
        console.run("add k 0* 1 2; a 0 1")
        shop.set_limit(1)
        before = (dict(shop.trial([])), shop.history())
        for line, code in (
            ("add K", "invalidwebname"),
            ("add abcdefg 0", "invalidwebname"),
            ("add k", "nametaken"),
            ("add m 0", "limitexceeded"),
            ("copy m K", "unknownweb"),
            ("copy k K", "invalidwebname"),
            ("copy k k", "nametaken"),
            ("copy k m", "limitexceeded"),
            ("remove m", "unknownweb"),
            ("cut k b", "unknownedge"),
            ("cut k .", "unknownedge"),
            ("contract k ab", "unknownedge"),
            ("contract m a", "unknownweb"),
            ("link k z 0 1", "invalidname"),
            ("link k a 0 1", "edgetaken"),
            ("link k b 3 3", "unknownnode"),
            ("link k b 0 99", "unknownnode"),
            ("link k b 1 1", "invalidedge"),
            ("node k 12", "invalidnode"),
            ("node k 99", "invalidnode"),
            ("node k 2", "nodetaken"),
            ("node m 2", "unknownweb"),
            ("turn k 10", "unknownnode"),
            ("redo", "emptyhistory"),
            ("show .", "unknownweb"),
            ("flat k\n", "unknownweb"),
            ("decide \n", "unknownweb"),
            ("equal m a a", "unknownweb"),
            ("equal k b y", "invalidword"),
            ("equal k a y", "invalidword"),
            ("equal k -. a", "invalidword"),
            ("equal k .. a", "invalidword"),
            ("equal k a. a", "invalidword"),
            ("equal k a a-", "invalidword"),
            ("equal k a\n a", "invalidword"),
            ("equal k a .", "notable"),
        ):
            self.assertEqual(f"error {code}", console.run(line), line)
            self.assertEqual(before, (shop.trial([]), shop.history()))
        self.assertEqual([], shop.cached())

    def test_invalid_lines(self):
        shop = Workshop()
        console = Console(shop)
        console.run("add k 0* 1 2; a 0 1")
        shop.undo()
        shop.redo()
        lines = [
            "", " ", "\n", "hello", "Names", "names ", " names", "names  ", "names k", "names\n", "undo k", "undo\n",
            "redo ", "redo redo", "add", "add ", "add  ", "add k ", "add  0", "add m 0 ", "add m  0", "add m 0*1",
            "add m 12", "add m 1 0", "add m 0 0", "add m 00", "add m 0\n", "add m empty", "add m 0; a 0 1",
            "add m 0 1;a 0 1", "add m 0 1; a 1 0", "add K 0 1; b 0 1; a 0 1", "add m ;", "add m .", "copy", "copy k",
            "copy k m n", "copy  m", "remove", "remove k m", "remove ", "cut k", "cut k a b", "cut k ", "contract k",
            "contract", "link k b 0", "link k b 0 1 2", "link k b 00 1", "link k b 0 01", "link k b -1 1",
            "link k b 0 +1", "link k b 0 100", "link k b 0 x", "link k b 0 1.", "link k b 0 1\n", "link q b 0 x",
            "link k b ", "node k", "node k 007", "node k 03", "node k 100", "node k -0", "node k +3", "node k 3 3",
            "node k three", "node k 3 ", "node q x", "turn k", "turn k 0*", "turn k 0 0", "turn  0", "turn k  0",
            "show", "show k k", "show ", "decide", "decide k k", "flat", "flat k m", "equal k a", "equal k a a a",
            "equal k", "equal k  a", "equal k a ", "equal", "quit", "limit 3", "certificate k", "trial k", "listing",
            "apply undo", ".",
        ]
        before = (shop.trial([]), shop.history(), shop.cached())
        for line in lines:
            self.assertEqual("invalid", console.run(line), line)
            self.assertEqual(before, (shop.trial([]), shop.history(), shop.cached()))
        self.assertEqual([(line, "invalid") for line in lines], console.log()[1:])
        self.assertEqual(len(lines) + 1, len(console))

    def test_only_decide_caches(self):
        shop = Workshop()
        console = Console(shop)
        console.run("add k 0 1; a 0 1")
        for line in ("show k", "flat k", "equal k a .", "equal k . .", "names"):
            console.run(line)
            self.assertEqual(([], 0), (shop.cached(), shop.computations()))
        console.run("decide k")
        console.run("decide k")
        self.assertEqual((["k"], 1), (shop.cached(), shop.computations()))

    def test_the_very_workshop(self):
        shop = Workshop()
        one, other = Console(shop), Console(shop)
        self.assertEqual("ok", one.run("add k 0"))
        self.assertEqual("0", other.run("show k"))
        shop.apply(("turn", "k", 0))
        self.assertEqual("0*", one.run("show k"))
        self.assertEqual("ok", other.run("undo"))
        self.assertEqual("0", shop.web("k").text())
        self.assertEqual([("add k 0", "ok"), ("show k", "0*")], one.log())
        self.assertEqual((2, 2), (len(one), len(other)))

    def test_log(self):
        console = Console(Workshop())
        self.assertEqual([], console.log())
        self.assertEqual(0, len(console))
        console.run("names")
        console.log().clear()
        self.assertEqual([("names", "none")], console.log())
        self.assertEqual(tuple, console.log()[0].__class__)
        self.assertEqual("invalid", console.run(line="Names"))
        self.assertEqual(2, len(console))


if __name__ == "__main__":
    unittest.main()
