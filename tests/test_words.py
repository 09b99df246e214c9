import random
import unittest

from samples import many_parts, raised, random_word, split, with_sign
from threadmark.errors import InvalidWord, UnknownEdge
from threadmark.webs import Web
from threadmark.words import check_word, contract_word, cut_word, inverse, product, reduced

WRONG_LETTERS = "-y1A \n*"


class CheckWordTest(unittest.TestCase):
    def test_words(self):
        rng = random.Random(31)
        for parts in many_parts(100, 32):
            web = Web(*parts)
            for count in range(5):
                self.assertIsNone(check_word(web, random_word(rng, list(parts[1]), 400)))

    def test_no_words(self):
        rng = random.Random(33)
        for parts in many_parts(100, 34):
            web = Web(*parts)
            missing = [name for name in "abcdefghijklmnopqrstuvwx" if name not in parts[1]]
            for letter in list(WRONG_LETTERS) + missing:
                sign, letters = split(random_word(rng, list(parts[1])))
                at = rng.randint(0, len(letters))
                wrong = letters[:at] + letter + letters[at:] + rng.choice(["", "y", letter])
                raised(self, InvalidWord, lambda: check_word(web, "-" + wrong), at)
                if letter != "-" or at > 0:
                    raised(self, InvalidWord, lambda: check_word(web, wrong), at)

    def test_minus_signs(self):
        web = Web.complete(3)
        for word in ("", "-", "a", "-a", "-abc"):
            self.assertIsNone(check_word(web, word))
        for word, position in (("--", 0), ("--a", 0), ("a-", 1), ("-a-", 1), ("ab-c-", 2), ("-ab--", 2), (" -a", 0)):
            raised(self, InvalidWord, lambda: check_word(web, word), position)
        raised(self, InvalidWord, lambda: check_word(Web.empty(), "-a"), 0)


class ProductsTest(unittest.TestCase):
    def test_product(self):
        self.assertEqual("", product())
        for word in ("", "-", "a", "-a", "-abca"):
            self.assertEqual(word, product(word))
        rng = random.Random(35)
        for count in range(300):
            words = [random_word(rng, "abcx", 8) for at in range(rng.randint(0, 10))]
            signs = [split(word)[0] for word in words]
            letters = [split(word)[1] for word in words]
            self.assertEqual(with_sign(sum(signs), "".join(letters)), product(*words))

    def test_known_products(self):
        self.assertEqual(["", "-", "", "-"], [product("-", "-"), product("-"), product("", ""), product("", "-")])
        self.assertEqual("-abba", product("-a", "-b", "-ba"))
        self.assertEqual("aa", product("a", "a"))

    def test_inverse(self):
        self.assertEqual(["", "-", "a", "-a"], [inverse(word) for word in ("", "-", "a", "-a")])
        self.assertEqual(["cba", "-cba"], [inverse("abc"), inverse("-abc")])
        rng = random.Random(36)
        for count in range(300):
            word = random_word(rng, "abcx", 30)
            sign, letters = split(word)
            self.assertEqual(with_sign(sign, "".join(reversed(letters))), inverse(word))
            self.assertEqual(word, inverse(inverse(word)))
            self.assertEqual("", reduced(product(word, inverse(word))))

    def test_reduced(self):
        rng = random.Random(37)
        for count in range(400):
            word = random_word(rng, "abc"[:rng.randint(1, 3)], 40)
            sign, letters = split(word)
            while True:
                places = [at for at in range(len(letters) - 1) if letters[at] == letters[at + 1]]
                if not places:
                    break
                at = rng.choice(places)
                letters = letters[:at] + letters[at + 2:]
            self.assertEqual(with_sign(sign, letters), reduced(word))

    def test_known_reduced(self):
        known = {"": "", "-": "-", "aa": "", "-aa": "-", "aaa": "a", "-abba": "-", "abab": "abab", "abbc": "ac"}
        for word, expected in known.items():
            self.assertEqual(expected, reduced(word))
        self.assertEqual("-", reduced("-" + "ab" * 100 + "ba" * 100))


class CutAndContractTest(unittest.TestCase):
    def test_cut_word(self):
        self.assertEqual(["", "-", "-", "-bc", "bc"], [cut_word(w, "a") for w in ("", "-", "-aa", "-abac", "bc")])
        rng = random.Random(38)
        for count in range(200):
            word = random_word(rng, "abcx", 30)
            for edge in "abcdx":
                kept = "".join(letter for letter in word if letter != edge)
                self.assertEqual(kept, cut_word(word, edge))

    def test_cut_words_are_words_of_the_cut_web(self):
        rng = random.Random(39)
        for parts in many_parts(60, 40):
            web = Web(*parts)
            for edge in parts[1]:
                check_word(web.cut(edge), cut_word(random_word(rng, list(parts[1]), 40), edge))

    def test_contract_word(self):
        rng = random.Random(41)
        for parts in many_parts(150, 42, 8, 24):
            web = Web(*parts)
            marks, edges = parts
            for edge in edges:
                word = random_word(rng, list(edges), 30)
                low = min(edges[edge])
                parallel = [name for name in edges if set(edges[name]) == set(edges[edge])]
                others = "".join(sorted(n for n in edges if low in edges[n] and n not in parallel))
                sign, letters = split(word)
                replaced = "".join(others if x == edge else "" if x in parallel else x for x in letters)
                expected = with_sign(sign + letters.count(edge) * marks[low], replaced)
                self.assertEqual(expected, contract_word(web, word, edge))
                check_word(web.contracted(edge), expected)

    def test_known_contractions(self):
        web = Web({1: 1, 2: 0, 3: 1}, {"d": (1, 2), "b": (2, 1), "c": (3, 1), "a": (1, 3), "e": (2, 3)})
        self.assertEqual("-ac", contract_word(web, "d", "d"))
        self.assertEqual("", contract_word(web, "b", "d"))
        self.assertEqual("-cacaac", contract_word(web, "-cdabd", "d"))
        self.assertEqual("bd", contract_word(web, "e", "e"))
        self.assertEqual(["", "-"], [contract_word(web, "", "a"), contract_word(web, "-", "a")])
        self.assertEqual("-", contract_word(Web({0: 1, 1: 1}, {"a": (0, 1)}), "a", "a"))
        self.assertEqual("", contract_word(Web({0: 1, 1: 1}, {"a": (0, 1)}), "aa", "a"))
        self.assertEqual("", contract_word(Web({0: 0, 1: 1}, {"a": (0, 1)}), "a", "a"))

    def test_contract_word_errors_in_order(self):
        web = Web.complete(3)
        for edge in ("", "d", "y", "A", "ab", "-"):
            raised(self, UnknownEdge, lambda: contract_word(web, "abd", edge), edge)
            raised(self, UnknownEdge, lambda: contract_word(web, "ab", edge), edge)
        for edge in "abc":
            raised(self, InvalidWord, lambda: contract_word(web, "-abda", edge), 2)
            raised(self, InvalidWord, lambda: contract_word(web, "a-", edge), 1)


if __name__ == "__main__":
    unittest.main()
