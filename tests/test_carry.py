import itertools
import random
import unittest

from samples import many_parts, raised, split
from shapes import full_flat_parts, kinds_of_parts
from smaller import contracted_of, contracted_parts, cut_of, cut_parts
from threadmark.carry import carry_contract, carry_cut
from threadmark.derivations import find_derivation
from threadmark.errors import InvalidStep, InvalidWord, UnknownEdge
from threadmark.steps import is_derivation, run_steps
from threadmark.webs import Web
from walks import MIXED, PAIR, PAIR_STEPS, model, valid_steps, walk, with_stars

KINDS = ("insert", "cancel", "swap", "spread", "gather", "flip")


CARRIES = (
    (carry_cut, cut_parts, cut_of),
    (carry_contract, contracted_parts, contracted_of),
)


def walk_around(rng, parts, edge, count):
    """Steps that insert, cancel, swap, spread or gather an edge or are at its ends, and the words along them."""
    def wanted(word, step):
        match step:
            case ["spread" | "gather", _, node, _]:
                return node in parts[1][edge]
            case ["insert", _, name]:
                return name == edge
            case ["cancel" | "swap", at]:
                return edge in split(word)[1][at:at + 2]
        return True
    return walk(rng, parts, with_stars(rng, parts, 1), count, wanted)


class CarryTest(unittest.TestCase):
    def check(self, carry, smaller, image, parts, steps, words, edge):
        """Checks the carried steps for one edge; returns them."""
        web = Web(*parts)
        text = web.text()
        kept = list(steps)
        found = carry(web, steps, edge, word=words[0])
        self.assertEqual(list, found.__class__)
        self.assertEqual({tuple}, {step.__class__ for step in found} | {tuple})
        first, last = (image(parts, word, edge) for word in (words[0], words[-1]))
        self.assertEqual(last, run_steps(Web(*smaller(parts, edge)), first, found))
        self.assertEqual(found, carry(web, tuple(steps), edge, word=words[0]))
        self.assertIsNot(found, carry(web, steps, edge, word=words[0]))
        self.assertEqual(kept, list(steps))
        self.assertEqual(text, web.text())
        return found

    def test_steps_of_all_kinds(self):
        rng = random.Random(461)
        seen = dict.fromkeys(KINDS, 0)
        for parts in [PAIR, MIXED, MIXED] + many_parts(40, 462, 6, 8) + kinds_of_parts(10, 463):
            for count in range(2):
                steps, words = walk(rng, parts, with_stars(rng, parts, 2), rng.randint(0, 10))
                for step in steps:
                    seen[step[0]] += 1
                for edge in parts[1]:
                    for carry, smaller, image in CARRIES:
                        self.check(carry, smaller, image, parts, steps, words, edge)
        self.assertLess(20, min(seen.values()), seen)

    def test_steps_around_the_edge(self):
        rng = random.Random(464)
        seen = dict.fromkeys(KINDS, 0)
        for parts in [PAIR, MIXED, MIXED] + many_parts(60, 465, 5, 7):
            for edge in parts[1]:
                steps, words = walk_around(rng, parts, edge, rng.randint(1, 10))
                for step in steps:
                    seen[step[0]] += 1
                for carry, smaller, image in CARRIES:
                    self.check(carry, smaller, image, parts, steps, words, edge)
        self.assertLess(20, min(seen.values()), seen)

    def test_each_single_step(self):
        rng = random.Random(466)
        seen = dict.fromkeys(KINDS, 0)
        webs = [PAIR, MIXED]
        for marks in itertools.product((0, 1), repeat=3):
            for more in ({}, {"a": (1, 0)}, {"a": (1, 2)}, {"a": (0, 2)}, {"c": (0, 2), "a": (1, 2)}):
                webs.append((dict(enumerate(marks)), {"b": (0, 1), **more}))
        for parts in webs:
            last = max(parts[1])
            for word in ("", "-" + last, last * 2, min(parts[1]) + last, with_stars(rng, parts)):
                for step in valid_steps(rng, parts, word):
                    seen[step[0]] += 1
                    words = [word, model(parts, word, step)]
                    for edge in parts[1]:
                        for carry, smaller, image in CARRIES:
                            self.check(carry, smaller, image, parts, [step], words, edge)
        self.assertLess(20, min(seen.values()), seen)

    def test_marks_of_the_ends(self):
        rng = random.Random(467)
        seen = set()
        for parts in many_parts(50, 468, 5, 9):
            for edge in parts[1]:
                low, high = sorted(parts[1][edge])
                parallel = sum(set(pair) == {low, high} for pair in parts[1].values()) > 1
                steps, words = walk_around(rng, parts, edge, 6)
                ends = {step[2] for step in steps if step[0] in ("spread", "gather")}
                if {low, high} <= ends:
                    seen.add((parts[0][low], parts[0][high], parallel))
                    self.check(carry_contract, contracted_parts, contracted_of, parts, steps, words, edge)
        # Odd and even lesser and greater ends, with and without parallel edges, each with steps at both ends.
        self.assertEqual(8, len(seen))

    def test_edges_that_leave_a_node_bare(self):
        web = Web(*PAIR)
        self.assertIs(True, is_derivation(web.cut("a"), carry_cut(web, PAIR_STEPS, "a")))
        self.assertIs(True, is_derivation(web.contracted("a"), carry_contract(web, PAIR_STEPS, "a")))
        for marks in ((0, 0), (0, 1), (1, 0), (1, 1)):
            parts = ({0: marks[0], 1: marks[1]}, {"a": (0, 1)})
            steps = [("spread", 0, 0, ""), ("gather", 0, 1, "a"), ("insert", 1, "a"), ("spread", 2, 1, "")]
            words = ["a"]
            for step in steps:
                words.append(model(parts, words[-1], step))
            for carry, smaller, image in CARRIES:
                self.check(carry, smaller, image, parts, steps, words, "a")

    def test_two_hundred_insertions(self):
        rng = random.Random(469)
        for parts in [MIXED] + many_parts(12, 470, 8, 24):
            for edge in rng.sample(sorted(parts[1]), min(3, len(parts[1]))):
                names = [edge] * 3 + sorted(parts[1])
                steps = [("insert", rng.randint(0, 2 * at), rng.choice(names)) for at in range(200)]
                words = [""]
                for step in steps:
                    words.append(model(parts, words[-1], step))
                for carry, smaller, image in CARRIES:
                    self.check(carry, smaller, image, parts, steps, words, edge)
                    found = carry(Web(*parts), steps, edge)
                    self.assertEqual(image(parts, words[-1], edge), run_steps(Web(*smaller(parts, edge)), "", found))

    def test_default_word(self):
        rng = random.Random(471)
        for parts in [PAIR, MIXED] + many_parts(30, 472, 6, 8):
            steps, words = walk(rng, parts, "", rng.randint(0, 8))
            for edge in parts[1]:
                for carry, smaller, image in CARRIES:
                    found = carry(Web(*parts), steps, edge)
                    self.assertEqual(found, self.check(carry, smaller, image, parts, steps, words, edge))

    def test_no_steps(self):
        web = Web(*MIXED)
        for edge in "abcde":
            for word in ("", "-", "-abcde"):
                self.assertEqual([], carry_cut(web, [], edge, word=word))
                self.assertEqual([], carry_contract(web, (), edge, word=word))


class ErrorsTest(unittest.TestCase):
    def test_order(self):
        web = Web(*MIXED)
        wrong = [("flip", 6), ("cancel", 5)]
        for carry in (carry_cut, carry_contract):
            for edge in ("", "f", "x", "y", "ab", "-", "A"):
                raised(self, UnknownEdge, lambda: carry(web, wrong, edge, word="y"), edge)
                raised(self, UnknownEdge, lambda: carry(web, [], edge), edge)
            for edge in "abcde":
                raised(self, InvalidWord, lambda: carry(web, wrong, edge, word="-aby"), 2)
                raised(self, InvalidWord, lambda: carry(web, [], edge, word="a-"), 1)
                raised(self, InvalidStep, lambda: carry(web, wrong, edge), 1)

    def test_invalid_steps(self):
        rng = random.Random(473)
        for parts in [PAIR, MIXED, MIXED] + many_parts(30, 474, 6, 8):
            web = Web(*parts)
            steps, words = walk(rng, parts, with_stars(rng, parts, 2), rng.randint(0, 8))
            for edge in parts[1]:
                at = rng.randint(0, len(steps))
                bad = rng.choice([("cancel", -1), ("flip", 12), (), ("insert", 0, "y"), ("spread", 0, 0, "y")])
                broken = steps[:at] + [bad] + steps[at:]
                for carry in (carry_cut, carry_contract):
                    raised(self, InvalidStep, lambda: carry(web, broken, edge, word=words[0]), at)
                    raised(self, InvalidStep, lambda: carry(web, tuple(broken), edge, word=words[0]), at)

    def test_steps_of_the_smaller_web_only(self):
        # The steps are steps of the web itself, not of the smaller one.
        web = Web({0: 0, 1: 0, 2: 0}, {"a": (0, 1), "b": (1, 2), "c": (0, 2)})
        raised(self, InvalidStep, lambda: carry_cut(web, [("spread", 0, 0, "")], "a", word="c"), 0)
        square = Web.bipartite(2, 2)
        raised(self, InvalidStep, lambda: carry_contract(square, [("swap", 0)], "b", word="ad"), 0)


class DerivationTest(unittest.TestCase):
    def carried(self, rng, parts, steps):
        """Carries a derivation through up to three cuts and contractions; returns how many there were."""
        many = 0
        for count in range(3):
            if not parts[1]:
                break
            edge = rng.choice(sorted(parts[1]))
            carry, smaller, image = rng.choice(CARRIES)
            steps = carry(Web(*parts), steps, edge)
            parts = smaller(parts, edge)
            self.assertIs(True, is_derivation(Web(*parts), steps))
            # What shows that the smaller web has a derivation shows that it has no table.
            self.assertIsNotNone(find_derivation(Web(*parts)))
            many += 1
        return many

    def test_derivations_of_smaller_webs(self):
        rng = random.Random(475)
        seen = dict.fromkeys(range(4), 0)
        for parts in kinds_of_parts(80, 476) + [full_flat_parts(rng) for count in range(20)]:
            steps = find_derivation(Web(*parts))
            if steps is not None:
                for count in range(3):
                    seen[self.carried(rng, parts, steps)] += 1
        self.assertLess(200, seen[3], seen)

    def test_each_edge(self):
        for web in (Web.complete(4, odd=[0]), Web.complete(4, odd=[1, 2, 3]), Web.bipartite(2, 4, odd=[1]), Web(*PAIR)):
            steps = find_derivation(web)
            for edge in web.edges():
                self.assertIs(True, is_derivation(web.cut(edge), carry_cut(web, steps, edge)))
                self.assertIs(True, is_derivation(web.contracted(edge), carry_contract(web, steps, edge)))


if __name__ == "__main__":
    unittest.main()
