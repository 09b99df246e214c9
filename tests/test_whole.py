"""What the document promises over the whole program."""

import ast
import os
import random
import subprocess
import sys
import unittest

from samples import many_parts
from shapes import kinds_of_parts
from smaller import contracted_parts, cut_parts
from test_examples import EXAMPLES
from test_language import FOLDER, sources
from threadmark.carry import carry_contract, carry_cut, restore_contraction, restore_cut
from threadmark.certificates import Derivation, certificate_of
from threadmark.console import Console
from threadmark.documents import dump, load
from threadmark.steps import is_derivation
from threadmark.tables import holds
from threadmark.webs import Web
from threadmark.workshop import Workshop

# What a run prints must not depend on anything but the program.
SCRIPT = """
import sys
from threadmark.carry import carry_contract
from threadmark.barriers import find_barrier
from threadmark.certificates import certificate_of
from threadmark.console import Console
from threadmark.documents import dump
from threadmark.equality import compare_words
from threadmark.layouts import find_drawing
from threadmark.notes import note_certificate
from threadmark.webs import Web
from threadmark.workshop import Workshop

def refuse(event, arguments):
    if event.split(".")[0] in ("open", "os", "socket", "subprocess", "shutil", "tempfile", "import", "exec", "compile"):
        raise SystemExit("not allowed: " + event)

sys.addaudithook(refuse)
lines = []
for web in (Web.complete(4, odd=[1]), Web.complete(5, odd=[0]), Web.bipartite(4, 6, odd=[2]), Web.empty()):
    found = certificate_of(web)
    lines.append(found.describe())
    lines.append(found.steps() if found.LABEL == "derivation" else found.table())
    lines.append([find_barrier(web), find_drawing(web), [note_certificate(web, node) for node in web.nodes()]])
    if found.LABEL == "derivation":
        lines.append([carry_contract(web, found.steps(), edge) for edge in web.edges()])
    elif len(web) > 0:
        lines.append([compare_words(web, "ah", word) for word in ("ha", "-ha", "ab", "")])
console = Console(Workshop())
for line in ("add k 0* 1; a 0 1", "decide k", "copy k m", "turn m 1", "equal m a -", "flat m", "names", "what"):
    lines.append(console.run(line))
lines.append(dump(console.workshop))
print(lines)
"""


class SmallerWebsTest(unittest.TestCase):
    def check(self, parts, edge):
        """Checks what a web and its cut and contracted webs have; returns the labels of their certificates."""
        web = Web(*parts)
        found = certificate_of(web)
        labels = []
        for smaller, parts_of, carry, restore in (
            (web.cut(edge), cut_parts, carry_cut, restore_cut),
            (web.contracted(edge), contracted_parts, carry_contract, restore_contraction),
        ):
            self.assertEqual(Web(*parts_of(parts, edge)), smaller)
            other = certificate_of(smaller)
            labels.append((found.LABEL, other.LABEL))
            if found.LABEL == "derivation":
                carried = Derivation(smaller, carry(web, found.steps(), edge))
                self.assertIs(True, carried.is_valid())
                self.assertEqual("derivation", other.LABEL)
            if other.LABEL == "table":
                self.assertEqual("table", found.LABEL)
                self.assertIs(True, holds(web, restore(web, other.table(), edge)))
        return labels

    def test_tables_and_derivations(self):
        rng = random.Random(561)
        seen = {}
        for parts in kinds_of_parts(60, 562) + many_parts(40, 563, 6, 8):
            for edge in rng.sample(sorted(parts[1]), min(4, len(parts[1]))):
                for pair in self.check(parts, edge):
                    seen[pair] = seen.get(pair, 0) + 1
        self.assertLess(20, min(seen.values()), seen)
        # A derivation of a web gives one of each smaller web, so the fourth pair does not occur.
        self.assertEqual({("derivation", "derivation"), ("table", "derivation"), ("table", "table")}, set(seen))

    def test_down_to_the_last_edge(self):
        rng = random.Random(564)
        for web in (Web.complete(4, odd=[2]), Web.bipartite(2, 5, odd=[0, 1, 3])):
            steps = certificate_of(web).steps()
            while len(web) > 0:
                edge = rng.choice(web.edges())
                if rng.randint(0, 1):
                    steps, web = carry_cut(web, steps, edge), web.cut(edge)
                else:
                    steps, web = carry_contract(web, steps, edge), web.contracted(edge)
                self.assertIs(True, is_derivation(web, steps))

    def test_through_a_workshop(self):
        shop = Workshop()
        console = Console(shop)
        shop.apply(("add", "k", Web.complete(5, odd=[0])))
        self.assertEqual("table", console.run("decide k"))
        self.assertEqual("ok", console.run("cut k a"))
        self.assertEqual("derivation", console.run("decide k"))
        self.assertIs(True, load(dump(shop)) == shop)
        self.assertEqual("ok", console.run("undo"))
        self.assertEqual("table", console.run("decide k"))
        self.assertEqual(3, shop.computations())


class ProgramTest(unittest.TestCase):
    def test_no_clock_no_randomness_no_files(self):
        for name, text, tree in sources():
            for node in ast.walk(tree):
                self.assertNotIsInstance(node, ast.Import)
                if isinstance(node, ast.ImportFrom):
                    self.assertEqual("threadmark", node.module.split(".")[0])
                if isinstance(node, ast.Name):
                    self.assertNotIn(node.id, ("open", "input", "print", "exec", "eval", "hash", "id"))

    def test_runs_give_the_same_and_touch_nothing(self):
        printed = set()
        for seed in ("0", "1", "77"):
            settings = {**os.environ, "PYTHONHASHSEED": seed, "PYTHONPATH": os.path.dirname(FOLDER)}
            done = subprocess.run([sys.executable, "-B", "-c", SCRIPT], env=settings, capture_output=True, text=True)
            self.assertEqual("", done.stderr)
            self.assertEqual(0, done.returncode)
            printed.add(done.stdout)
        self.assertEqual(1, len(printed))
        self.assertIn("derivation of Web(4 nodes, 6 edges)", printed.pop())

    def test_every_section_has_its_examples(self):
        files = {name[:-3] for name in os.listdir(FOLDER) if name.endswith(".py")}
        self.assertEqual(files - {"__init__", "errors", "signs"}, {name[:-4] for name in os.listdir(EXAMPLES)})


if __name__ == "__main__":
    unittest.main()
