"""Every function that raises InvalidWord names the first position of a letter that is no edge."""

import random
import unittest

from samples import NAMES, many_parts, raised, random_word, split
from threadmark.carry import carry_contract, carry_cut
from threadmark.equality import check_comparison, compare_words
from threadmark.errors import InvalidStep, InvalidWord, NoTable, UnknownEdge
from threadmark.notes import collect
from threadmark.steps import opposite_steps, run_steps, words_along
from threadmark.tables import value_of
from threadmark.webs import Web
from threadmark.words import check_word, contract_word, cut_word

SAME = ("same", ((), (), ()))
CALLS = {
    "check_word": lambda web, word: check_word(web, word),
    "collect": lambda web, word: collect(web, word),
    "words_along": lambda web, word: list(words_along(web, word, [])),
    "run_steps": lambda web, word: run_steps(web, word, [("cancel", -1)]),
    "opposite_steps": lambda web, word: opposite_steps(web, word, [()]),
    "compare_words one": lambda web, word: compare_words(web, word, "y"),
    "compare_words other": lambda web, word: compare_words(web, "", word),
    "check_comparison one": lambda web, word: check_comparison(web, word, "y", SAME),
    "check_comparison other": lambda web, word: check_comparison(web, "", word, SAME),
    "check_comparison table": lambda web, word: check_comparison(web, "", word, ("different", {})),
    "value_of": lambda web, word: value_of({name: "1" for name in web.edges()}, word),
}
EDGE_CALLS = {
    "contract_word": lambda web, word, edge: contract_word(web, word, edge),
    "carry_cut": lambda web, word, edge: carry_cut(web, [("cancel", -1)], edge, word=word),
    "carry_contract": lambda web, word, edge: carry_contract(web, [()], edge, word=word),
}


def broken(rng, names):
    """A text that is no word of these edges, and the first position of a wrong letter."""
    sign, letters = split(random_word(rng, names, 20))
    at = rng.randint(0, len(letters))
    wrong = rng.choice([name for name in NAMES if name not in names] + list("-yzA1 \n;.X"))
    # Without a sign, a first letter `-` would be the sign.
    begin = "-" if sign or (wrong == "-" and at == 0) else ""
    return begin + letters[:at] + wrong + letters[at:] + rng.choice(["", "-", "y", wrong]), at


class InvalidWordTest(unittest.TestCase):
    def test_all_functions(self):
        rng = random.Random(421)
        for parts in many_parts(60, 422):
            web = Web(*parts)
            for name, call in CALLS.items():
                word, at = broken(rng, list(parts[1]))
                with self.subTest(name, word=word, web=web.text()):
                    raised(self, InvalidWord, lambda: call(web, word), at)
            for name, call in EDGE_CALLS.items():
                word, at = broken(rng, list(parts[1]))
                for edge in list(parts[1])[:4]:
                    with self.subTest(name, word=word, edge=edge, web=web.text()):
                        raised(self, InvalidWord, lambda: call(web, word, edge), at)

    def test_minus_signs(self):
        web = Web.complete(3)
        for word, position in (("--", 0), ("--a", 0), ("a-", 1), ("-a-", 1), ("ab-c-", 2), ("-ab--", 2), (" -a", 0)):
            for call in CALLS.values():
                raised(self, InvalidWord, lambda: call(web, word), position)
            for call in EDGE_CALLS.values():
                raised(self, InvalidWord, lambda: call(web, word, "b"), position)

    def test_first_word_first(self):
        web = Web.complete(3, odd=[0])
        raised(self, InvalidWord, lambda: compare_words(web, "abcd", "e"), 3)
        raised(self, InvalidWord, lambda: check_comparison(web, "abcd", "e", SAME), 3)
        raised(self, InvalidWord, lambda: check_comparison(web, "abcd", "e", ("other", {})), 3)
        raised(self, InvalidWord, lambda: check_comparison(web, "abc", "-ae", ("other", {})), 1)

    def test_words_before_other_errors(self):
        web = Web.complete(3, odd=[0])
        raised(self, InvalidWord, lambda: compare_words(web, "", "abd"), 2)
        raised(self, NoTable, lambda: compare_words(web, "", "ab"))
        raised(self, InvalidWord, lambda: list(words_along(web, "d", [()])), 0)
        raised(self, InvalidStep, lambda: list(words_along(web, "a", [()])), 0)

    def test_edges_before_words(self):
        web = Web.complete(3)
        for name, call in EDGE_CALLS.items():
            for edge in ("d", "", "ab", "-", "A"):
                raised(self, UnknownEdge, lambda: call(web, "y", edge), edge)
                raised(self, UnknownEdge, lambda: call(web, "", edge), edge)

    def test_words_are_accepted(self):
        rng = random.Random(423)
        for parts in many_parts(40, 424):
            web = Web(*parts)
            word = random_word(rng, list(parts[1]), 30)
            self.assertIsNone(check_word(web, word))
            self.assertEqual([word], list(words_along(web, word, [])))
            self.assertEqual(3, len(collect(web, word)))
            for edge in parts[1]:
                # A cut word is a word of the cut web.
                self.assertIsNone(check_word(web.cut(edge), cut_word(word, edge)))
                self.assertIsNone(check_word(web.contracted(edge), contract_word(web, word, edge)))


if __name__ == "__main__":
    unittest.main()
