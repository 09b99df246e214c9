import itertools
import random
import time
import unittest

from counting import certifies, strangers
from faults import first_fault, letters
from pairs import joined, negative, some_other, with_table
from samples import many_parts, raised, random_word, shuffled, star, with_sign
from shapes import QUICKLY, full_flat_parts, full_parts, kinds_of_parts
from threadmark.derivations import find_derivation
from threadmark.equality import check_comparison, compare_words
from threadmark.errors import NoTable
from threadmark.tables import holds, value_of
from threadmark.webs import Web
from walks import walk, with_stars

STRINGS = [sign + letter for sign in ("", "-") for letter in "1XZ"]


class ComparisonTest(unittest.TestCase):
    def check(self, parts, one, other):
        """Checks the answer for two words and returns which one it is."""
        web = Web(*parts)
        answer = compare_words(web, one, other)
        self.assertEqual((tuple, 2), (answer.__class__, len(answer)))
        self.assertIs(True, check_comparison(web, one, other, answer))
        kind, found = answer
        if kind == "same":
            self.assertEqual([tuple] * 4, [found.__class__] + [part.__class__ for part in found])
            self.assertEqual({tuple}, {rule.__class__ for rule in found[1]} | {tuple})
            self.assertTrue(certifies(parts, one, other, found))
        else:
            self.assertEqual("different", kind)
            self.assertEqual(dict, found.__class__)
            self.assertIsNone(first_fault(parts, found))
            self.assertNotEqual(value_of(found, one), value_of(found, other))
            self.assertLessEqual(max([len(letters(text)) for text in found.values()], default=0), 30)
        return kind

    def test_words(self):
        rng = random.Random(431)
        seen = {"same": 0, "different": 0}
        for parts in kinds_of_parts(60, 432):
            parts = with_table(parts)
            for count in range(4):
                one = random_word(rng, list(parts[1]), 8)
                other = some_other(rng, parts, one)
                kind = self.check(parts, one, other)
                seen[kind] += 1
                # The other order has the same answer, and equal words differ from their negatives.
                self.assertEqual(kind, self.check(parts, other, one))
                if kind == "same":
                    self.assertEqual("different", self.check(parts, one, negative(other)))
                    self.assertEqual("different", self.check(parts, negative(one), other))
                    self.assertEqual("same", self.check(parts, negative(one), negative(other)))
        self.assertLess(100, min(seen.values()), seen)

    def test_words_that_steps_connect(self):
        rng = random.Random(433)
        for parts in kinds_of_parts(40, 434):
            parts = with_table(parts)
            steps, words = walk(rng, parts, with_stars(rng, parts, 2), rng.randint(1, 8))
            self.assertEqual("same", self.check(parts, words[0], words[-1]))
            self.assertEqual("different", self.check(parts, words[0], negative(words[-1])))
            more = random_word(rng, list(parts[1]), 5)
            self.assertEqual("same", self.check(parts, joined(more, words[0]), joined(more, words[-1])))
            self.assertEqual("same", self.check(parts, joined(words[0], more), joined(words[-1], more)))

    def test_equal_words_have_equal_values_in_small_tables(self):
        rng = random.Random(435)
        seen = {"same": 0, "different": 0}
        for parts in many_parts(60, 436, 5, 4):
            parts = with_table(parts)
            web = Web(*parts)
            names = sorted(parts[1])
            rows = [dict(zip(names, row)) for row in itertools.product(STRINGS, repeat=len(names))]
            tables = [table for table in rows if holds(web, table)]
            for count in range(6):
                one = random_word(rng, names, 5)
                other = some_other(rng, parts, one)
                values = {value_of(table, one) == value_of(table, other) for table in tables}
                kind = self.check(parts, one, other)
                seen[kind] += 1
                if kind == "same":
                    self.assertEqual({True}, values)
                elif not strangers(parts):
                    # Where all edges touch, the tables of signs and of the letter X tell all words apart.
                    self.assertIn(False, values)
        self.assertLess(50, min(seen.values()), seen)

    def test_known_words(self):
        square = ({0: 0, 1: 0, 2: 0, 3: 0, 4: 0, 5: 1}, dict(zip("abcdefghi", itertools.product((0, 1, 2), (3, 4, 5)))))
        for one, other, kind in (
            ("", "", "same"),
            ("", "-", "different"),
            ("-", "-", "same"),
            ("abc", "", "same"),
            ("-abc", "", "different"),
            ("cfi", "-", "same"),
            ("cfi", "", "different"),
            ("a", "bc", "same"),
            ("a", "cb", "same"),
            ("a", "b", "different"),
            ("ae", "ea", "different"),
            ("ae", "-ea", "same"),
            ("aeae", "-", "same"),
            ("aeae", "afaf", "same"),
            ("aeaeafaf", "", "same"),
            ("a" * 400, "", "same"),
        ):
            self.assertEqual(kind, self.check(square, one, other), (one, other))

    def test_strangers_in_a_flat_web(self):
        # Two edges far from each other commute, because each is the sign of its node.
        parts = ({0: 1, 1: 1, 2: 0, 3: 0}, {"a": (0, 1), "b": (2, 3)})
        self.assertEqual("same", self.check(parts, "ab", "ba"))
        self.assertEqual("same", self.check(parts, "ab", "-"))
        self.assertEqual("same", self.check(parts, "-", "ab"))
        # Rings far from each other need not commute.
        parts = ({node: 0 for node in range(4)}, {"a": (0, 1), "b": (0, 1), "c": (2, 3), "d": (2, 3)})
        self.assertEqual("different", self.check(parts, "ac", "ca"))
        self.assertEqual("same", self.check(parts, "ac", "bd"))
        self.assertEqual("same", self.check(parts, "acac", "bcbc"))
        self.assertEqual("different", self.check(parts, "acac", ""))
        self.assertEqual("different", self.check(parts, "acac", "-"))

    def test_webs_without_edges(self):
        for parts in (({}, {}), ({4: 0}, {})):
            self.assertEqual("same", self.check(parts, "", ""))
            self.assertEqual("same", self.check(parts, "-", "-"))
            self.assertEqual(("different", {}), compare_words(Web(*parts), "-", ""))
        raised(self, NoTable, lambda: compare_words(Web({4: 1}, {}), "", ""))

    def test_no_table(self):
        rng = random.Random(437)
        seen = {True: 0, False: 0}
        for parts in kinds_of_parts(60, 438):
            web = Web(*parts)
            one, other = (random_word(rng, list(parts[1]), 5) for count in range(2))
            derived = find_derivation(web) is not None
            seen[derived] += 1
            if derived:
                raised(self, NoTable, lambda: compare_words(web, one, other))
            else:
                self.check(parts, one, other)
        self.assertLess(20, min(seen.values()), seen)

    def test_large_webs_and_long_words_end_quickly(self):
        rng = random.Random(439)
        seen = {"same": 0, "different": 0}
        for count in range(20):
            parts = with_table(full_flat_parts(rng) if count % 2 else full_parts(rng))
            web = Web(*parts)
            one = "".join(rng.choice(sorted(parts[1])) for at in range(400))
            node = rng.choice(sorted(parts[0]))
            for other in (with_sign(parts[0][node], one[:200] + star(parts, node) + one[200:]), one[::-1]):
                started = time.monotonic()
                answer = compare_words(web, one, other)
                self.assertLess(time.monotonic() - started, QUICKLY)
                started = time.monotonic()
                self.assertIs(True, check_comparison(web, one, other, answer))
                self.assertLess(time.monotonic() - started, QUICKLY)
                seen[answer[0]] += 1
            self.assertEqual("same", compare_words(web, one, with_sign(parts[0][node], one + star(parts, node)))[0])
        self.assertLess(5, min(seen.values()), seen)

    def test_equal_arguments_give_equal_answers(self):
        rng = random.Random(440)
        for parts in kinds_of_parts(30, 441):
            parts = with_table(parts)
            web = Web(*parts)
            text = web.text()
            one = random_word(rng, list(parts[1]), 8)
            other = some_other(rng, parts, one)
            first = compare_words(web, one, other)
            self.assertEqual(first, compare_words(web, one, other))
            self.assertEqual(first, compare_words(Web(*shuffled(rng, parts)), one, other))
            if first[0] == "different" and first[1]:
                kept = dict(first[1])
                first[1].clear()
                self.assertEqual(kept, compare_words(web, one, other)[1])
            self.assertEqual(text, web.text())


if __name__ == "__main__":
    unittest.main()
