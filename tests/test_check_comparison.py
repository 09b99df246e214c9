import random
import unittest

from counting import certifies, roots, rules
from faults import first_fault, spoiled
from pairs import joined, negative, some_other, with_table
from samples import random_word, split, with_sign
from shapes import kinds_of_parts
from threadmark.equality import check_comparison, compare_words
from threadmark.tables import value_of
from threadmark.webs import Web
from walks import walk, with_stars


def wanted(parts, one, other, answer):
    """Whether an answer is right, by what the document says."""
    kind, found = answer
    if kind == "same":
        return certifies(parts, one, other, found)
    if kind != "different" or first_fault(parts, found) is not None:
        return False
    return value_of(found, one) != value_of(found, other)


def one_changed(rng, items, known, strange):
    """The items with one of them missing, twice, exchanged for another one, or with one more, or in another order."""
    items = list(items)
    at = rng.randrange(len(items)) if items else 0
    match rng.randint(0, 5):
        case 0:
            items[at:at + 1] = []
        case 1:
            items += items[at:at + 1]
        case 2 if known:
            items[at:at + 1] = [rng.choice(known)]
        case 3 if known:
            items.insert(at, rng.choice(known))
        case 4:
            items.insert(at, rng.choice(strange))
        case _:
            rng.shuffle(items)
    return tuple(items)


def changed_certificate(rng, parts, certificate):
    """A certificate with one change."""
    nodes, chosen, named = certificate
    all_nodes = sorted(parts[0])
    touched = [(edge, end) for edge in parts[1] for end in parts[1][edge]]
    strange = touched + [("", 0), ("y", 0), ("ab", 1), ("a", 12), ("a", -1), ("-a", 0)]
    numbers = [-1, 12, 10 ** 29, -10 ** 29] + [node for node in range(12) if node not in parts[0]]
    no_roots = numbers + [node for node in all_nodes if node not in roots(parts)]
    match rng.randint(0, 2):
        case 0:
            return one_changed(rng, nodes, all_nodes, numbers), chosen, named
        case 1:
            return nodes, one_changed(rng, chosen, rules(parts), strange), named
        case 2:
            return nodes, chosen, one_changed(rng, named, roots(parts), no_roots)


def samples(count, seed):
    """Webs with tables, two words, and the answer for them; equal words are as frequent as others."""
    rng = random.Random(seed)
    for parts in kinds_of_parts(count, seed + 1):
        parts = with_table(parts)
        steps, words = walk(rng, parts, with_stars(rng, parts, 2), rng.randint(1, 5))
        one = random_word(rng, list(parts[1]), 6)
        for first, second in ((words[0], words[-1]), (one, some_other(rng, parts, one))):
            yield rng, parts, first, second, compare_words(Web(*parts), first, second)


class CheckComparisonTest(unittest.TestCase):
    def check(self, parts, one, other, answer):
        expected = wanted(parts, one, other, answer)
        self.assertIs(expected, check_comparison(Web(*parts), one, other, answer), (one, other, answer))
        return expected

    def test_changed_certificates(self):
        seen = {True: 0, False: 0}
        for rng, parts, one, other, answer in samples(60, 451):
            if answer[0] == "same":
                self.assertTrue(self.check(parts, one, other, answer))
                for count in range(15):
                    seen[self.check(parts, one, other, ("same", changed_certificate(rng, parts, answer[1])))] += 1
        self.assertLess(200, min(seen.values()), seen)

    def test_changed_words(self):
        seen = {True: 0, False: 0}
        for rng, parts, one, other, answer in samples(40, 453):
            self.assertTrue(self.check(parts, one, other, answer))
            more = random_word(rng, list(parts[1]), 2)
            for first, second in (
                (negative(one), other),
                (one, negative(other)),
                (negative(one), negative(other)),
                (joined(one, more), other),
                (joined(one, more), joined(other, more)),
                (other, one),
                (one, one),
                ("", ""),
            ):
                seen[self.check(parts, first, second, answer)] += 1
        self.assertLess(100, min(seen.values()), seen)

    def test_changed_tables(self):
        seen = {True: 0, False: 0}
        for rng, parts, one, other, answer in samples(60, 455):
            if answer[0] == "different":
                for count in range(8):
                    table = spoiled(rng, answer[1])
                    kept = list(table.items())
                    seen[self.check(parts, one, other, ("different", table))] += 1
                    self.assertEqual(kept, list(table.items()))
                self.assertFalse(self.check(parts, one, one, answer))
                # A table of another web of the same names.
                wrong = {name: "1" for name in parts[1]}
                self.check(parts, one, other, ("different", wrong))
        self.assertLess(50, min(seen.values()), seen)

    def test_tables_in_which_the_values_are_equal(self):
        web = Web.bipartite(3, 3)
        signs = {name: "1" for name in web.edges()}
        self.assertIs(False, check_comparison(web, "ae", "ea", ("different", signs)))
        self.assertIs(True, check_comparison(web, "ae", "-ea", ("different", signs)))
        self.assertIs(True, check_comparison(web, "ae", "ea", compare_words(web, "ae", "ea")))

    def test_other_texts(self):
        web = Web.complete(3)
        table = {"a": "-", "b": "-", "c": "-"}
        self.assertIs(True, check_comparison(web, "a", "", ("different", table)))
        for kind in ("", "Same", "different ", "equal", "derivation", "table", "a"):
            self.assertIs(False, check_comparison(web, "a", "", (kind, table)))
            self.assertIs(False, check_comparison(web, "a", "a", (kind, {})))
        self.assertIs(False, check_comparison(web, "a", "", ("different", {})))
        self.assertIs(False, check_comparison(web, "a", "", ("different", {"a": "-", "b": "-"})))
        self.assertIs(False, check_comparison(web, "a", "", ("different", {**table, "d": "-"})))

    def test_order_of_the_nodes(self):
        # The edges of the nodes 0 and 2 are strangers, so their order writes a note.
        web = Web({0: 0, 1: 0, 2: 0, 3: 0}, {"a": (0, 1), "b": (2, 3)})
        for one, other, nodes, chosen, expected in (
            ("ab", "", (2, 0), (), True),
            ("ab", "", (0, 2), (), False),
            ("ab", "", (0, 2), (("a", 2),), True),
            ("ab", "", (0, 2), (("b", 1),), True),
            ("ab", "", (2, 0), (("a", 2),), False),
            ("ab", "", (2, 0), (("a", 2), ("b", 1)), True),
            ("ab", "", (2, 0), (("b", 1), ("a", 2)), True),
            ("ab", "", (2, 0), (("a", 2), ("a", 2)), False),
            ("", "ab", (0, 2), (), True),
            ("", "ab", (2, 0), (), False),
            ("ab", "", (3, 1), (), True),
            ("ab", "", (3, 2, 1, 0), (), False),
        ):
            answer = ("same", (nodes, chosen, ()))
            self.assertIs(expected, check_comparison(web, one, other, answer), answer)
        self.assertIs(False, check_comparison(web, "ab", "", ("same", ((2, 0, 0), (), ()))))
        self.assertIs(False, check_comparison(web, "", "", ("same", ((2, 2), (), ()))))
        self.assertIs(False, check_comparison(web, "", "", ("same", ((), (("a", 0),), ()))))
        self.assertIs(True, check_comparison(web, "", "", ("same", ((), (), (0, 2)))))
        self.assertIs(True, check_comparison(web, "", "", ("same", ((), (), (2, 0)))))
        self.assertIs(False, check_comparison(web, "", "", ("same", ((), (), (1,)))))
        self.assertIs(False, check_comparison(web, "", "", ("same", ((), (), (0, 0)))))
        self.assertIs(False, check_comparison(web, "", "", ("same", ((), (), (4,)))))

    def test_webs_without_a_table(self):
        # The conditions decide, though two words are called equal only if a table holds.
        pair = Web({0: 1, 1: 0}, {"a": (0, 1)})
        self.assertIs(True, check_comparison(pair, "a", "a", ("same", ((), (), ()))))
        self.assertIs(True, check_comparison(pair, "a", "-", ("same", ((0,), (), ()))))
        self.assertIs(True, check_comparison(pair, "a", "", ("same", ((1,), (), ()))))
        self.assertIs(False, check_comparison(pair, "a", "", ("same", ((0,), (), ()))))
        self.assertIs(True, check_comparison(pair, "a", "", ("same", ((0,), (), (0,)))))
        self.assertIs(True, check_comparison(pair, "-", "", ("same", ((), (), (0,)))))
        self.assertIs(False, check_comparison(pair, "-", "", ("different", {"a": "1"})))
        self.assertIs(True, check_comparison(Web({4: 1}, {}), "-", "", ("same", ((), (), (4,)))))
        self.assertIs(True, check_comparison(Web({4: 1}, {}), "-", "", ("same", ((4,), (), ()))))
        self.assertIs(False, check_comparison(Web({4: 1}, {}), "-", "", ("same", ((4,), (), (4,)))))

    def test_any_certificates(self):
        seen = {True: 0, False: 0}
        rng = random.Random(457)
        for parts in kinds_of_parts(40, 458):
            for count in range(5):
                nodes = tuple(rng.sample(sorted(parts[0]), rng.randint(0, len(parts[0]))))
                named = tuple(rng.sample(roots(parts), rng.randint(0, len(roots(parts)))))
                chosen = tuple(rng.sample(rules(parts), min(len(rules(parts)), rng.randint(0, 2))))
                word = "".join(Web(*parts).edges_of(node) for node in reversed(nodes))
                one, other = random_word(rng, list(parts[1]), 2), ""
                for first, second in ((word, ""), (one, other), (with_sign(split(one)[0], word), "")):
                    seen[self.check(parts, first, second, ("same", (nodes, chosen, named)))] += 1
        self.assertLess(50, min(seen.values()), seen)


if __name__ == "__main__":
    unittest.main()
