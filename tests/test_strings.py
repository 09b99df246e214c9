import itertools
import random
import unittest

from samples import raised, split, with_sign
from threadmark.errors import InvalidString, LengthMismatch
from threadmark.strings import SignedString, check_string, commute, identity, multiply

WRONG = ("Y", "x", "y", "0", " ", "X Z", "X-", "--", "--X", "-X-", "1X1-", "1-X", "X\n", "+X", "-Y", "a", "11I")
RIGHT = ("", "-", "1", "X", "Z", "W", "-1", "-XZW1", "XXXX", "1" * 40, "-" + "W" * 40)

# The letters as matrices, row by row.
MATRICES = {"1": (1, 0, 0, 1), "X": (0, 1, 1, 0), "Z": (1, 0, 0, -1), "W": (0, -1, 1, 0)}


def matrix_product(one, other):
    a, b, c, d = one
    e, f, g, h = other
    return (a * e + b * g, a * f + b * h, c * e + d * g, c * f + d * h)


def letter_of(matrix):
    """The letter of a matrix, and how often its sign turns."""
    for letter, plain in MATRICES.items():
        if matrix == plain:
            return 0, letter
        if matrix == tuple(-entry for entry in plain):
            return 1, letter
    raise AssertionError(matrix)


def model(*strings):
    """The product by matrices."""
    turns = sum(split(text)[0] for text in strings)
    letters = []
    for column in zip(*[split(text)[1] for text in strings]):
        total = MATRICES["1"]
        for letter in column:
            total = matrix_product(total, MATRICES[letter])
        turn, letter = letter_of(total)
        turns += turn
        letters.append(letter)
    return with_sign(turns, "".join(letters))


def random_string(rng, size):
    return rng.choice(["", "-"]) + "".join(rng.choice("1XZW") for at in range(size))


class MultiplyTest(unittest.TestCase):
    def test_few_strings(self):
        self.assertEqual("", multiply())
        for text in RIGHT:
            self.assertEqual(text, multiply(text))
        self.assertEqual(["", "-", ""], [multiply("", ""), multiply("-", ""), multiply("-", "-")])

    def test_pairs_of_letters(self):
        known = {
            "XX": "1", "ZZ": "1", "XZ": "W", "ZX": "-W", "WW": "-1", "XW": "Z", "WX": "-Z", "ZW": "-X", "WZ": "X",
        }
        for pair, expected in known.items():
            self.assertEqual(expected, multiply(*pair))
        for one, other in itertools.product("1XZW", repeat=2):
            for left, right in itertools.product(("", "-"), repeat=2):
                self.assertEqual(model(left + one, right + other), multiply(left + one, right + other))
                if "1" in (one, other):
                    sign = "-" if left != right else ""
                    self.assertEqual(sign + max(one, other), multiply(left + one, right + other))

    def test_many_strings(self):
        rng = random.Random(71)
        for count in range(400):
            size = rng.randint(0, 40)
            strings = [random_string(rng, size) for at in range(rng.randint(1, 10))]
            self.assertEqual(model(*strings), multiply(*strings))

    def test_grouped_products(self):
        rng = random.Random(72)
        for count in range(200):
            size = rng.randint(0, 40)
            strings = [random_string(rng, size) for at in range(rng.randint(2, 10))]
            at = rng.randint(1, len(strings) - 1)
            whole = multiply(*strings)
            self.assertEqual(whole, multiply(multiply(*strings[:at]), multiply(*strings[at:])))
            mixed = rng.sample(strings, len(strings))
            self.assertEqual(split(whole)[1], split(multiply(*mixed))[1])

    def test_commute(self):
        rng = random.Random(73)
        for one, other in itertools.product("1XZW", repeat=2):
            self.assertIs("1" in (one, other) or one == other, commute(one, "-" + other))
        for count in range(400):
            size = rng.randint(0, 40)
            one, other = random_string(rng, size), random_string(rng, size)
            there, back = multiply(one, other), multiply(other, one)
            self.assertIs(there == back, commute(one, other))
            self.assertEqual(split(there)[1], split(back)[1])
        self.assertIs(True, commute("", "-"))

    def test_identity(self):
        rng = random.Random(74)
        for size in range(41):
            self.assertEqual("1" * size, identity(size))
            text = random_string(rng, size)
            self.assertEqual([text, text], [multiply(identity(size), text), multiply(text, identity(size))])


class WrongStringsTest(unittest.TestCase):
    def test_check_string(self):
        for text in RIGHT:
            self.assertIsNone(check_string(text))
        for text in WRONG:
            raised(self, InvalidString, lambda: check_string(text), text)

    def test_first_wrong_text(self):
        for text in WRONG:
            raised(self, InvalidString, lambda: multiply(text), text)
            raised(self, InvalidString, lambda: multiply("X", "XZ", text, "Q"), text)
            raised(self, InvalidString, lambda: multiply("X", text, "XZ"), text)
            raised(self, InvalidString, lambda: commute("X", text), text)
            raised(self, InvalidString, lambda: commute(text, "Q"), text)
            raised(self, InvalidString, lambda: commute("Q", text), "Q")

    def test_lengths(self):
        for one, other in (("", "1"), ("X", "XX"), ("-", "X"), ("-X", "XZ"), ("-XZ", "XZW"), ("1" * 40, "1" * 39)):
            for pair in ((one, other), (other, one)):
                raised(self, LengthMismatch, lambda: multiply(*pair))
                raised(self, LengthMismatch, lambda: commute(*pair))
                raised(self, LengthMismatch, lambda: multiply(one, *pair, one))
                raised(self, LengthMismatch, lambda: SignedString(pair[0]) * SignedString(pair[1]))
        self.assertEqual("-1", multiply("-X", "X"))


class SignedStringTest(unittest.TestCase):
    def test_text_and_length(self):
        for text in RIGHT:
            one = SignedString(text)
            self.assertEqual(text, one.text())
            self.assertEqual(len(text.replace("-", "")), len(one))
            self.assertEqual(f"SignedString({text})", repr(one))

    def test_wrong_texts(self):
        for text in WRONG:
            raised(self, InvalidString, lambda: SignedString(text), text)

    def test_operators(self):
        rng = random.Random(75)
        for count in range(300):
            size = rng.randint(0, 40)
            texts = [random_string(rng, size), random_string(rng, size)]
            one, other = SignedString(texts[0]), SignedString(texts[1])
            whole = one * other
            self.assertEqual(SignedString, whole.__class__)
            self.assertEqual(model(*texts), whole.text())
            self.assertEqual(SignedString, (-one).__class__)
            self.assertEqual(model("-" + identity(size), texts[0]), (-one).text())
            self.assertTrue(-(-one) == one)
            self.assertFalse(-one == one)
            self.assertEqual(texts, [one.text(), other.text()])

    def test_equality(self):
        rng = random.Random(76)
        for count in range(200):
            texts = [random_string(rng, rng.randint(0, 2)) for at in range(2)]
            one, other = SignedString(texts[0]), SignedString(texts[1])
            self.assertIs(texts[0] == texts[1], one == other)
            self.assertIs(texts[0] != texts[1], one != other)
        for text in ("", "-", "X"):
            for value in (text, None, 0, 1, [], (), {}, [text], object(), identity(1)):
                self.assertIs(False, SignedString(text) == value)
                self.assertIs(False, value == SignedString(text))
                self.assertIs(True, SignedString(text) != value)
                self.assertIs(True, value != SignedString(text))

    def test_letters(self):
        for text in RIGHT:
            one = SignedString(text)
            for letter in ("1", "X", "Z", "W"):
                self.assertIs(text.count(letter) > 0, letter in one)
            for other in ("", "-", "Y", "XZ", "-X", "XX", "1111", text + "1X", " "):
                self.assertIs(False, other in one)
        self.assertIs(False, "XZ" in SignedString("XZ"))
        self.assertIs(False, "" in SignedString("XZ"))
        self.assertIs(False, "-" in SignedString("-XZ"))

    def test_products_with_other_values(self):
        for value in ("X", "", 2, None, [1], (1,)):
            with self.assertRaises(TypeError):
                SignedString("X") * value
            with self.assertRaises(TypeError):
                value * SignedString("X")


if __name__ == "__main__":
    unittest.main()
