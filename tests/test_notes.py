import random
import unittest

from counting import added, collected, counted, forms, is_a_form, notes_of_component, notes_of_rule, strangers
from samples import many_parts, raised, random_word
from shapes import mixed_parts, several_parts
from threadmark.errors import InvalidNode, InvalidWord, UnknownEdge, UnknownNode
from threadmark.notes import collect, component_notes, is_form, rule_notes, sum_of
from threadmark.webs import Web

WRONG_NODES = (-1, 12, 10 ** 29, -10 ** 29)


class CollectTest(unittest.TestCase):
    def test_by_exchanging_neighbours(self):
        rng = random.Random(321)
        written = 0
        for parts in many_parts(200, 322):
            web = Web(*parts)
            for count in range(6):
                word = random_word(rng, sorted(parts[1]), 20)
                expected = collected(parts, word)
                self.assertEqual(expected, collected(parts, word, rng))
                self.assertEqual(expected, counted(parts, word))
                self.assertEqual(expected, collect(web, word))
                written += len(expected[2]) > 0
        self.assertLess(200, written)

    def test_long_words(self):
        rng = random.Random(323)
        for count in range(12):
            parts = mixed_parts(rng)
            letters = "".join(rng.choice(sorted(parts[1])) for at in range(400))
            self.assertEqual(counted(parts, letters), collect(Web(*parts), letters))
            self.assertEqual(counted(parts, "-" + letters), collect(Web(*parts), "-" + letters))

    def test_known_words(self):
        path = Web({node: 0 for node in range(5)}, {"a": (0, 1), "b": (1, 2), "c": (2, 3), "d": (3, 4)})
        for word, expected in [
            ("", (0, "", [])), ("-", (1, "", [])), ("aa", (0, "", [])), ("ba", (0, "ab", [])),
            ("ca", (0, "ac", ["ac"])), ("-caca", (1, "", ["ac"])), ("cca", (0, "a", [])), ("cac", (0, "a", ["ac"])),
            ("dcba", (0, "abcd", ["ac", "ad", "bd"])), ("abcd", (0, "abcd", [])), ("aaa", (0, "a", [])),
        ]:
            self.assertEqual(expected, collect(path, word), word)

    def test_invalid_words(self):
        web = Web({0: 0, 1: 0}, {"a": (0, 1)})
        for word, position in [
            ("b", 0), ("aab", 2), ("-ab", 1), ("--", 0), ("a-", 1), ("A", 0), ("a a", 1), ("a\n", 1), ("aybz", 1),
        ]:
            raised(self, InvalidWord, lambda: collect(web, word), position)
        raised(self, InvalidWord, lambda: collect(Web.empty(), "a"), 0)
        self.assertEqual((1, "", []), collect(Web.empty(), "-"))

    def test_returned_lists_are_new(self):
        web = Web({node: 0 for node in range(4)}, {"a": (0, 1), "b": (2, 3)})
        collect(web, "ba")[2].append("x")
        self.assertEqual((0, "ab", ["ab"]), collect(web, "ba"))


class RuleAndComponentNotesTest(unittest.TestCase):
    def test_all_rules(self):
        rng = random.Random(324)
        for parts in many_parts(60, 325) + [mixed_parts(rng) for at in range(40)]:
            web = Web(*parts)
            for edge in parts[1]:
                for node in parts[0]:
                    if node in parts[1][edge]:
                        raised(self, InvalidNode, lambda: rule_notes(web, edge, node), node)
                    else:
                        self.assertEqual(notes_of_rule(parts, edge, node), rule_notes(web, edge, node))

    def test_all_components(self):
        rng = random.Random(326)
        seen = 0
        for parts in many_parts(100, 327) + [several_parts(rng) for at in range(60)]:
            web = Web(*parts)
            for node in parts[0]:
                expected = notes_of_component(parts, node)
                seen += len(expected) > 0
                self.assertEqual(expected, component_notes(web, node))
        self.assertLess(100, seen)

    def test_order_of_errors(self):
        web = Web({0: 0, 1: 0, 2: 1}, {"a": (0, 1)})
        for edge in ("", "b", "ab", "A", "-", "aa"):
            for node in (0, 2, 3) + WRONG_NODES:
                raised(self, UnknownEdge, lambda: rule_notes(web, edge, node), edge)
        for node in (3,) + WRONG_NODES:
            raised(self, UnknownNode, lambda: rule_notes(web, "a", node), node)
            raised(self, UnknownNode, lambda: component_notes(web, node), node)
        for node in (0, 1):
            raised(self, InvalidNode, lambda: rule_notes(web, "a", node), node)
        self.assertEqual([], rule_notes(web, "a", 2))
        self.assertEqual([], component_notes(web, 2))

    def test_returned_lists_are_new(self):
        web = Web.complete(5)
        for call in (lambda: rule_notes(web, "a", 4), lambda: component_notes(web, 0)):
            first = call()
            self.assertTrue(first)
            kept = list(first)
            first.clear()
            self.assertEqual(kept, call())


class SumTest(unittest.TestCase):
    def test_sums(self):
        rng = random.Random(328)
        for count in range(500):
            lists = [[rng.choice("abcde") + rng.choice("xy") for at in range(rng.randint(0, 6))]
                     for row in range(rng.randint(0, 5))]
            if lists and rng.random() < 0.3:
                lists.append(rng.choice(lists))
            kept = [list(texts) for texts in lists]
            texts = sorted({text for row in lists for text in row})
            expected = [text for text in texts if len([row for row in lists if text in row]) % 2 == 1]
            self.assertEqual(expected, sum_of(lists))
            self.assertEqual(expected, sum_of(tuple(tuple(row) for row in lists)))
            self.assertEqual(kept, lists)

    def test_known_sums(self):
        self.assertEqual([], sum_of([]))
        self.assertEqual([], sum_of(()))
        self.assertEqual([], sum_of([[], ()]))
        self.assertEqual(["ab", "cd"], sum_of([["cd", "ab"]]))
        self.assertEqual(["ab"], sum_of([["ab", "ab"]]))
        self.assertEqual([], sum_of([["ab", "ab"], ("ab",)]))
        self.assertEqual(["", "ab"], sum_of([["ab"], ["ab", ""], ["ab"]]))

    def test_returned_lists_are_new(self):
        row = ["ab", "cd"]
        found = sum_of([row])
        self.assertIsNot(row, found)
        found.clear()
        self.assertEqual(["ab", "cd"], row)


class IsFormTest(unittest.TestCase):
    def check(self, parts, texts):
        expected = is_a_form(parts, texts)
        kept = list(texts)
        web = Web(*parts)
        self.assertIs(expected, is_form(web, texts))
        self.assertIs(expected, is_form(web, tuple(texts)))
        self.assertEqual(kept, texts)
        return expected

    def changed(self, rng, parts, form):
        """A list with up to two changes."""
        texts = list(form)
        for count in range(rng.randint(0, 2)):
            at = rng.randrange(len(texts) + 1)
            match rng.randint(0, 5):
                case 0:
                    texts = added([texts, [rng.choice(strangers(parts) or ["ab"])]])
                case 1:
                    texts = texts[:at] + texts[at:at + 1] + texts[at:]
                case 2:
                    texts = texts[::-1]
                case 3:
                    texts = texts[:at] + texts[at + 1:]
                case 4:
                    texts = sorted(texts + [rng.choice(["", "a", "aa", "ba", "ab", "yz", "abc", "-", "Ab", "a b"])])
                case 5:
                    texts = added([texts, rng.choice(forms(parts) or [[]])])
        return texts

    def test_sums_of_forms_and_changes(self):
        rng = random.Random(329)
        seen = {True: 0, False: 0}
        for count in range(60):
            parts = rng.choice([mixed_parts, several_parts])(rng)
            basis = forms(parts)
            for at in range(6):
                form = added([some for some in basis if rng.randint(0, 1)])
                self.assertTrue(self.check(parts, form))
                seen[self.check(parts, self.changed(rng, parts, form))] += 1
        self.assertLess(50, min(seen.values()), seen)

    def test_known_lists(self):
        web = Web({node: 0 for node in range(4)}, {"a": (0, 1), "b": (2, 3), "c": (0, 1), "d": (2, 3)})
        self.assertEqual(["ab", "ad", "bc", "cd"], web.notes())
        for texts, expected in [
            ([], True), (["ab", "ad", "bc", "cd"], True), (["ab"], False), (["ab", "ad"], False), (["ac"], False),
            (["ad", "ab", "bc", "cd"], False), (["ab", "ab"], False), (["ab", "ad", "bc", "cd", "cd"], False),
            (["ba", "da", "cb", "dc"], False), (["ab", "ad", "bc", "bd", "cd"], False), ([""], False),
        ]:
            self.assertIs(expected, is_form(web, texts), texts)
        self.assertIs(False, is_form(web.cut("c").cut("d"), ["ab"]))
        self.assertIs(True, is_form(Web.empty(), []))
        self.assertIs(False, is_form(Web.empty(), ["ab"]))


if __name__ == "__main__":
    unittest.main()
