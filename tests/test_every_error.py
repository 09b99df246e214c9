"""One call for each error class."""

import unittest

from test_errors import ALL, BELOW_THREAD_ERROR
from threadmark import errors
from threadmark.barriers import find_barrier
from threadmark.carry import carry_cut
from threadmark.documents import load
from threadmark.drawings import is_flat
from threadmark.equality import compare_words
from threadmark.forms import table_from_form
from threadmark.steps import run_steps
from threadmark.strings import check_string, multiply
from threadmark.webs import Web
from threadmark.words import check_word
from threadmark.workshop import Workshop

PAIR = Web({0: 1, 1: 0}, {"a": (0, 1)})


def full_shop():
    """A workshop that has as many names as it may have."""
    shop = Workshop()
    shop.set_limit(1)
    shop.apply(("add", "k", PAIR))
    return shop


CALLS = {
    "InvalidNode": (lambda: Web({0: 0, 12: 0}, {}), 12),
    "InvalidMark": (lambda: Web({0: 0, 3: 2}, {}), 3),
    "InvalidName": (lambda: Web({0: 0, 1: 0}, {"y": (0, 1)}), "y"),
    "InvalidEdge": (lambda: Web({0: 0}, {"b": (0, 0)}), "b"),
    "NodeTaken": (lambda: PAIR.with_node(1), 1),
    "EdgeTaken": (lambda: PAIR.with_edge("a", 0, 1), "a"),
    "NotBare": (lambda: PAIR.without_node(0), 0),
    "InvalidWord": (lambda: check_word(PAIR, "-aab"), 2),
    "InvalidStep": (lambda: run_steps(PAIR, "", [("insert", 0, "a"), ("flip", 0)]), 1),
    "InvalidString": (lambda: check_string("-XY"), "-XY"),
    "LengthMismatch": (lambda: multiply("X", "XX"),),
    "InvalidDrawing": (lambda: is_flat(PAIR, {0: "a"}), 1),
    "InvalidForm": (lambda: table_from_form(Web.complete(5, odd=[0]), []),),
    "NoTable": (lambda: compare_words(PAIR, "", ""),),
    "LimitExceeded": (lambda: full_shop().apply(("copy", "k", "m")), 1),
    "InvalidLimit": (lambda: full_shop().set_limit(13), 13),
    "InvalidWebName": (lambda: full_shop().apply(("add", "K", PAIR)), "K"),
    "NameTaken": (lambda: full_shop().apply(("add", "k", PAIR)), "k"),
    "InvalidCommand": (lambda: full_shop().apply_all([("remove", "k"), ("undo",)]), 1),
    "ParseError": (lambda: Web.parse("0 1; a 1 0"),),
    "InvalidDocument": (lambda: load("k:\nm"), 1),
    "UnknownNode": (lambda: PAIR.turned(2), 2),
    "UnknownEdge": (lambda: carry_cut(PAIR, [], "b"), "b"),
    "UnknownWeb": (lambda: full_shop().web("m"), "m"),
    "EmptyHistory": (lambda: full_shop().redo(),),
}


class EveryErrorTest(unittest.TestCase):
    def test_one_call_for_each_class(self):
        self.assertEqual(set(ALL), set(CALLS))
        for name, (call, *fields) in CALLS.items():
            with self.subTest(name):
                with self.assertRaises(Exception) as caught:
                    call()
                error = caught.exception
                self.assertEqual(getattr(errors, name), error.__class__)
                below = name in BELOW_THREAD_ERROR
                for base, expected in (
                    (errors.ThreadError, below),
                    (ValueError, below),
                    (errors.Missing, not below),
                    (LookupError, not below),
                ):
                    self.assertIs(expected, isinstance(error, base))
                self.assertEqual([name], [other for other in ALL if isinstance(error, getattr(errors, other))])
                self.assertEqual(name.lower(), error.code)
                self.assertEqual(fields, [] if ALL[name] is None else [getattr(error, ALL[name])])

    def test_no_error(self):
        self.assertIsNone(find_barrier(PAIR))
        self.assertIsNone(full_shop().undo())


if __name__ == "__main__":
    unittest.main()
