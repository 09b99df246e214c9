import random
import time
import unittest

from counting import added, even, fits, forms, has_flat_odd_component, is_a_form, is_odd, notes_of_component, strangers
from samples import raised, shuffled, split
from shapes import (
    QUICKLY,
    barred_parts,
    evened,
    full_flat_parts,
    full_parts,
    kinds_of_parts,
    mixed_parts,
    several_parts,
)
from threadmark.derivations import find_derivation
from threadmark.errors import InvalidForm
from threadmark.forms import find_form, table_from_form
from threadmark.strings import multiply
from threadmark.tables import table_fault
from threadmark.webs import Web


class FindFormTest(unittest.TestCase):
    def check(self, parts):
        """Checks the form of a web and returns it."""
        form = find_form(Web(*parts))
        self.assertIs(has_flat_odd_component(parts), form is None)
        if form is not None:
            self.assertEqual(list, form.__class__)
            self.assertTrue(is_a_form(parts, form))
            self.assertTrue(fits(parts, form))
        return form

    def test_forms(self):
        seen = {"none": 0, "empty": 0, "notes": 0}
        for parts in kinds_of_parts(100, 341):
            form = self.check(parts)
            seen["none" if form is None else "notes" if form else "empty"] += 1
        self.assertLess(20, min(seen.values()), seen)

    def test_none_exactly_if_no_form_fits(self):
        rng = random.Random(342)
        for count in range(120):
            parts = several_parts(rng)
            # The parities that sums of forms reach, each as the tuple of the components with an odd number.
            lists = [notes_of_component(parts, members[0]) for members in Web(*parts).components()]
            wanted = tuple(int(is_odd(parts, members[0])) for members in Web(*parts).components())
            reached = {tuple(0 for some in lists)}
            for form in forms(parts):
                row = tuple(int(not even(form, some)) for some in lists)
                reached |= {tuple(one ^ other for one, other in zip(row, known)) for known in reached}
            self.assertIs(wanted in reached, find_form(Web(*parts)) is not None)

    def test_known_webs(self):
        self.assertEqual([], find_form(Web.empty()))
        self.assertEqual([], find_form(Web({3: 0}, {})))
        self.assertIsNone(find_form(Web({3: 0, 4: 1}, {})))
        self.assertIsNone(find_form(Web.complete(4, odd=[3])))
        self.assertIsNotNone(find_form(Web.complete(5, odd=[3])))
        self.assertIsNotNone(find_form(Web.bipartite(3, 3, odd=[3, 4, 5])))

    def test_equal_webs_give_equal_forms(self):
        rng = random.Random(343)
        for parts in kinds_of_parts(30, 344):
            web = Web(*parts)
            text = web.text()
            first = find_form(web)
            kept = None if first is None else list(first)
            if first is not None:
                first.append("x")
            self.assertEqual(kept, find_form(web))
            self.assertEqual(kept, find_form(Web(*shuffled(rng, parts))))
            self.assertEqual(text, web.text())


class TableTest(unittest.TestCase):
    def check(self, parts, form):
        """Checks the table of a form; returns the length of its strings."""
        web = Web(*parts)
        kept = list(form)
        table = table_from_form(web, form)
        self.assertEqual(kept, list(form))
        self.assertEqual(dict, table.__class__)
        self.assertIsNone(table_fault(web, table))
        for note in strangers(parts):
            one, other = table[note[0]], table[note[1]]
            self.assertIs(note in form, multiply(one, other) != multiply(other, one))
        lengths = {len(split(text)[1]) for text in table.values()}
        self.assertLessEqual(max(lengths, default=0), 30)
        return max(lengths, default=0)

    def fitting(self, rng, parts):
        """Some forms that fit, by adding forms to one of them."""
        first = find_form(Web(*parts))
        basis = forms(parts)
        for count in range(8):
            form = added([first] + [some for some in basis if rng.randint(0, 1)])
            if fits(parts, form):
                yield form

    def test_forms_that_were_found(self):
        tables = 0
        for parts in kinds_of_parts(100, 345):
            form = find_form(Web(*parts))
            if form is not None:
                self.check(parts, form)
                self.check(parts, tuple(form))
                tables += 1
        self.assertLess(100, tables)

    def test_any_forms_that_fit(self):
        rng = random.Random(346)
        longest = 0
        tables = 0
        for count in range(80):
            parts = rng.choice([mixed_parts, several_parts])(rng)
            if find_form(Web(*parts)) is None:
                parts = evened(parts)
            for form in self.fitting(rng, parts):
                longest = max(longest, self.check(parts, form))
                tables += 1
        self.assertLess(100, tables)
        self.assertLess(3, longest)

    def test_largest_webs(self):
        rng = random.Random(347)
        tables = 0
        for count in range(15):
            parts = full_flat_parts(rng) if count % 3 == 0 else full_parts(rng)
            web = Web(*parts)
            started = time.monotonic()
            form = find_form(web)
            self.assertLess(time.monotonic() - started, QUICKLY)
            self.assertIs(form is None, find_derivation(web) is not None)
            if form is None:
                parts = evened(parts)
                form = find_form(Web(*parts))
            started = time.monotonic()
            self.check(parts, form)
            self.assertLess(time.monotonic() - started, QUICKLY)
            for other in list(self.fitting(rng, parts))[:3]:
                self.check(parts, other)
                tables += 1
        self.assertLess(20, tables)

    def test_many_strangers(self):
        # Pairs of parallel edges far from each other: the strings need many letters.
        edges = {}
        for at, name in enumerate("abcdefghijklmnopqrstuvwx"):
            edges[name] = (at // 4 * 2, at // 4 * 2 + 1)
        parts = ({node: 0 for node in range(12)}, edges)
        rng = random.Random(348)
        self.assertEqual([], find_form(Web(*parts)))
        longest = max(self.check(parts, form) for form in self.fitting(rng, parts))
        self.assertLess(6, longest)

    def test_squares_without_a_sign(self):
        # Among three pairwise crossing strings of few letters one has an odd number of W.
        edges = {}
        for at, name in enumerate("abcdefghi"):
            edges[name] = (at // 3 * 2, at // 3 * 2 + 1)
        parts = ({node: 0 for node in range(6)}, edges)
        form = ["ad", "ae", "ag", "ah", "bd", "be", "bg", "bh", "dg", "dh", "eg", "eh"]
        self.assertTrue(is_a_form(parts, form))
        self.check(parts, form)

    def test_invalid_forms(self):
        rng = random.Random(349)
        refused = 0
        for parts in kinds_of_parts(40, 350):
            web = Web(*parts)
            form = find_form(web)
            basis = forms(parts)
            lists = [added([some for some in basis if rng.randint(0, 1)]) for count in range(3)]
            known = strangers(parts) or ["ab"]
            for texts in [form or [], *basis[:2]]:
                lists += [texts, texts[::-1], texts + texts[-1:], texts[1:], added([texts, [rng.choice(known)]])]
                lists += [sorted(texts + [wrong]) for wrong in ("", "ba", "yz", "aa", "abc")]
            for texts in lists:
                if is_a_form(parts, texts) and fits(parts, texts):
                    self.check(parts, texts)
                else:
                    refused += 1
                    raised(self, InvalidForm, lambda: table_from_form(web, texts))
                    raised(self, InvalidForm, lambda: table_from_form(web, tuple(texts)))
        self.assertLess(500, refused)

    def test_other_parities(self):
        five = Web.complete(5, odd=[2])
        form = find_form(five)
        raised(self, InvalidForm, lambda: table_from_form(five, []))
        raised(self, InvalidForm, lambda: table_from_form(five.turned(2), form))
        self.assertEqual(10, len(table_from_form(five.turned(2), [])))
        raised(self, InvalidForm, lambda: table_from_form(Web({1: 1}, {}), []))
        self.assertEqual({}, table_from_form(Web({1: 0}, {}), []))
        self.assertEqual({}, table_from_form(Web.empty(), ()))
        raised(self, InvalidForm, lambda: table_from_form(Web.empty(), ["ab"]))
        raised(self, InvalidForm, lambda: table_from_form(Web.complete(3, odd=[0]), []))

    def test_equal_arguments_give_equal_tables(self):
        rng = random.Random(351)
        for count in range(40):
            parts = barred_parts(rng)[0]
            form = find_form(Web(*parts))
            first = table_from_form(Web(*parts), form)
            kept = dict(first)
            first.clear()
            self.assertEqual(kept, table_from_form(Web(*parts), form))
            self.assertEqual(kept, table_from_form(Web(*shuffled(rng, parts)), tuple(form)))


if __name__ == "__main__":
    unittest.main()
