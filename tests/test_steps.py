import random
import unittest

from samples import many_parts, raised
from threadmark.errors import InvalidStep, InvalidWord
from threadmark.steps import is_derivation, opposite_steps, run_steps, words_along
from threadmark.webs import Web
from walks import MIXED, PAIR, PAIR_STEPS, all_steps, model, valid_steps, walk, with_stars


def changed(rng, step):
    """A step with one changed part, most often invalid."""
    parts = list(step)
    at = rng.randrange(len(parts) + 2)
    if at >= len(parts):
        return rng.choice([(), step[:-1], step + (0,), step + ("a",), step[1:], ("turn",) + step[1:]])
    if isinstance(parts[at], str):
        parts[at] = rng.choice(["", "a", "b", "y", "-", "ab", "Insert", "insert ", "swap", 0, 1, parts[at] + "a"])
    else:
        parts[at] = rng.choice([-1, parts[at] + 1, parts[at] - 1, 12, 10 ** 29, -10 ** 29, "0", "a", ""])
    return tuple(parts)


class SingleStepTest(unittest.TestCase):
    def check(self, parts, web, word, step):
        expected = model(parts, word, step)
        steps = [step]
        if expected is None:
            raised(self, InvalidStep, lambda: run_steps(web, word, steps), 0)
        else:
            self.assertEqual(expected, run_steps(web, word, steps))
        self.assertEqual([step], steps)
        return expected is not None

    def test_all_kinds_everywhere(self):
        rng = random.Random(51)
        seen = {}
        for parts in [PAIR, MIXED] * 20 + many_parts(60, 52, 6, 8):
            web = Web(*parts)
            text = web.text()
            for word in ("", "-", with_stars(rng, parts), with_stars(rng, parts)):
                for step in all_steps(rng, parts, word):
                    done = self.check(parts, web, word, step)
                    seen[step[0], done] = seen.get((step[0], done), 0) + 1
            self.assertEqual(text, web.text())
        for kind in ("insert", "cancel", "swap", "spread", "gather", "flip"):
            self.assertLess(20, seen[kind, True])
            self.assertLess(20, seen[kind, False])

    def test_one_changed_part(self):
        rng = random.Random(53)
        for parts in [PAIR, MIXED] * 20 + many_parts(60, 54, 6, 8):
            web = Web(*parts)
            for word in ("", with_stars(rng, parts)):
                steps = valid_steps(rng, parts, word)
                for step in rng.sample(steps, min(15, len(steps))):
                    for count in range(12):
                        self.check(parts, web, word, changed(rng, step))

    def test_known_steps(self):
        web = Web(*MIXED)
        for word, step, expected in (
            ("", ("insert", 0, "e"), "ee"),
            ("-ab", ("insert", 2, "c"), "-abcc"),
            ("-aabb", ("cancel", 2), "-aa"),
            ("aa", ("swap", 0), "aa"),
            ("-ab", ("swap", 0), "-ba"),
            ("ce", ("swap", 0), "ec"),
            ("b", ("spread", 0, 0, "da"), "-da"),
            ("-b", ("spread", 0, 1, "ca"), "-ca"),
            ("e", ("spread", 0, 3, ""), ""),
            ("-e", ("spread", 0, 2, "cd"), "cd"),
            ("adb", ("gather", 0, 0, "b"), "-bb"),
            ("ab", ("gather", 2, 3, "e"), "abe"),
            ("", ("gather", 0, 3, "e"), "e"),
            ("", ("flip", 6), "-"),
            ("-ab", ("flip", 6), "ab"),
        ):
            self.assertEqual(expected, run_steps(web, word, [step]))

    def test_known_invalid_steps(self):
        web = Web(*MIXED)
        for word, step in (
            ("ab", ()),
            ("ab", ("",)),
            ("ab", ("insert",)),
            ("ab", ("insert", 0)),
            ("ab", ("insert", 0, "a", "a")),
            ("ab", ("insert", 3, "a")),
            ("ab", ("insert", -1, "a")),
            ("ab", ("insert", 0, "")),
            ("ab", ("insert", 0, "ab")),
            ("ab", ("insert", 0, "x")),
            ("ab", ("insert", "a", 0)),
            ("ab", ("insert", "0", "a")),
            ("ab", ("insert", 0, 0)),
            ("ab", (0, 0, "a")),
            ("ab", ("cancel", 0)),
            ("aa", ("cancel", 1)),
            ("aa", ("cancel", -1)),
            ("aa", ("cancel", -2)),
            ("aa", ("cancel", 2)),
            ("a", ("cancel", 0)),
            ("aa", ("cancel", "0")),
            ("aa", ("Cancel", 0)),
            ("ae", ("swap", 0)),
            ("ab", ("swap", 1)),
            ("ab", ("swap", -1)),
            ("ab", ("swap", -2)),
            ("ab", ("swap", 0, 1)),
            ("e", ("spread", 0, 6, "")),
            ("e", ("spread", 0, 4, "")),
            ("e", ("spread", -1, 3, "")),
            ("e", ("spread", 1, 3, "")),
            ("e", ("spread", 0, 3, "e")),
            ("a", ("spread", 0, 0, "b")),
            ("a", ("spread", 0, 0, "bdd")),
            ("a", ("spread", 0, 0, "b d")),
            ("a", ("spread", 0, 0, "abd")),
            ("a", ("spread", 0, 0, "-bd")),
            ("e", ("spread", 0, 0, "abd")),
            ("a", ("spread", 0, 0, 5)),
            ("a", ("spread", 0, "0", "bd")),
            ("a", ("gather", 2, 3, "e")),
            ("a", ("gather", -1, 3, "e")),
            ("a", ("gather", 0, 3, "a")),
            ("a", ("gather", 0, 6, "")),
            ("a", ("gather", 0, 6, "a")),
            ("a", ("gather", 0, 3, "")),
            ("a", ("gather", 0, 7, "e")),
            ("bd", ("gather", 1, 0, "a")),
            ("bb", ("gather", 0, 0, "a")),
            ("bdd", ("gather", 0, 0, "ad")),
            ("bd", ("gather", -2, 0, "a")),
            ("", ("flip", 9)),
            ("", ("flip", 0)),
            ("", ("flip", 3)),
            ("", ("flip", 5)),
            ("", ("flip", -6)),
            ("", ("flip", "6")),
            ("", ("flip",)),
            ("", ("flip", 6, 6)),
            ("", ("flip", 0, 6)),
        ):
            raised(self, InvalidStep, lambda: run_steps(web, word, [step]), 0)


class ManyStepsTest(unittest.TestCase):
    def samples(self, seed, count=60, most=12):
        rng = random.Random(seed)
        for parts in [PAIR, MIXED, MIXED] + many_parts(count, seed + 1, 6, 8):
            word = with_stars(rng, parts, 2)
            steps, words = walk(rng, parts, word, rng.randint(0, most))
            yield rng, parts, Web(*parts), steps, words

    def test_words_along(self):
        for rng, parts, web, steps, words in self.samples(55):
            kept = list(steps)
            self.assertEqual(words, list(words_along(web, words[0], steps)))
            self.assertEqual(words, list(words_along(web, words[0], tuple(steps))))
            self.assertEqual(words[-1], run_steps(web, words[0], steps))
            self.assertEqual(words[-1], run_steps(web, words[0], tuple(steps)))
            self.assertEqual(kept, steps)

    def test_invalid_step_at_any_place(self):
        for rng, parts, web, steps, words in self.samples(57):
            for at in range(len(steps) + 1):
                wrong = rng.choice([("cancel", -1), ("flip", 12), (), ("insert", 0, "y")])
                broken = steps[:at] + [wrong] + steps[at:]
                along = words_along(web, words[0], broken)
                self.assertEqual(words[:at + 1], [next(along) for count in range(at + 1)])
                raised(self, InvalidStep, lambda: next(along), at)
                raised(self, InvalidStep, lambda: run_steps(web, words[0], tuple(broken)), at)
                raised(self, InvalidStep, lambda: opposite_steps(web, words[0], broken), at)
                self.assertIs(False, is_derivation(web, broken))

    def test_no_steps(self):
        web = Web(*MIXED)
        for word in ("", "-", "-ab"):
            for steps in ([], ()):
                self.assertEqual([word], list(words_along(web, word, steps)))
                self.assertEqual(word, run_steps(web, word, steps))
                self.assertEqual([], opposite_steps(web, word, steps))
        self.assertIs(False, is_derivation(web, []))

    def test_invalid_word_first(self):
        web = Web(*MIXED)
        for word, position in (("x", 0), ("-abx", 2), ("a-", 1), ("--", 0), ("aby y", 2)):
            for steps in ([], [("flip", 6)], [()], [("cancel", -1)]):
                raised(self, InvalidWord, lambda: next(words_along(web, word, steps)), position)
                raised(self, InvalidWord, lambda: run_steps(web, word, steps), position)
                raised(self, InvalidWord, lambda: opposite_steps(web, word, steps), position)

    def test_a_generator_that_keeps_its_steps(self):
        web = Web(*MIXED)
        steps = [("flip", 6), ("flip", 6)]
        along = words_along(web, "", steps)
        self.assertEqual("", next(along))
        steps.clear()
        self.assertEqual(["-", ""], list(along))
        with self.assertRaises(StopIteration):
            next(along)

    def test_opposite_steps(self):
        for rng, parts, web, steps, words in self.samples(59, most=10):
            back = opposite_steps(web, words[0], steps)
            self.assertEqual(list, back.__class__)
            self.assertEqual(len(steps), len(back))
            self.assertEqual({tuple}, {step.__class__ for step in back} | {tuple})
            self.assertEqual(words[::-1], list(words_along(web, words[-1], back)))
            forth = opposite_steps(web, words[-1], tuple(back))
            self.assertEqual(words, list(words_along(web, words[0], forth)))

    def test_opposite_of_each_kind(self):
        web = Web(*MIXED)
        for word, step, expected in (
            ("ab", ("insert", 1, "c"), ("cancel", 1)),
            ("-acc", ("cancel", 1), ("insert", 1, "c")),
            ("ab", ("swap", 0), ("swap", 0)),
            ("-eb", ("spread", 1, 0, "da"), ("gather", 1, 0, "b")),
            ("eda", ("gather", 1, 0, "b"), ("spread", 1, 0, "da")),
            ("ed", ("gather", 2, 3, "e"), ("spread", 2, 3, "")),
            ("e", ("spread", 0, 3, ""), ("gather", 0, 3, "e")),
            ("-", ("flip", 6), ("flip", 6)),
        ):
            self.assertEqual([expected], opposite_steps(web, word, [step]))
            behind = run_steps(web, word, [step])
            self.assertEqual([step], opposite_steps(web, behind, [expected]))

    def test_five_thousand_steps(self):
        web = Web(*MIXED)
        steps = [("insert", 1, "a"), ("cancel", 0)] * 2500
        self.assertEqual("a", run_steps(web, "a", steps))
        self.assertEqual("a", run_steps(web, "a", opposite_steps(web, "a", steps)))


class DerivationTest(unittest.TestCase):
    def test_known(self):
        pair = Web(*PAIR)
        self.assertIs(True, is_derivation(pair, PAIR_STEPS))
        self.assertIs(True, is_derivation(pair, tuple(PAIR_STEPS)))
        self.assertIs(False, is_derivation(pair, PAIR_STEPS * 2))
        self.assertIs(True, is_derivation(pair, PAIR_STEPS * 3))
        self.assertIs(False, is_derivation(pair, PAIR_STEPS[:2]))
        self.assertIs(False, is_derivation(pair, PAIR_STEPS[1:]))
        self.assertIs(False, is_derivation(pair.turned(0), PAIR_STEPS))
        self.assertIs(True, is_derivation(Web({3: 1}, {}), [("flip", 3)]))
        self.assertIs(False, is_derivation(Web({3: 0}, {}), [("flip", 3)]))
        self.assertIs(False, is_derivation(Web.empty(), []))

    def test_invalid_steps_give_false(self):
        pair = Web(*PAIR)
        for wrong in ((), ("flip", 0), ("", ""), (0,), ("insert", "a", 0), ("cancel", -1), ("spread", 0, 5, "")):
            for at in range(4):
                self.assertIs(False, is_derivation(pair, PAIR_STEPS[:at] + [wrong] + PAIR_STEPS[at:]))

    def test_walks(self):
        rng = random.Random(61)
        for parts in [PAIR, MIXED, MIXED, MIXED] + many_parts(40, 62, 5, 6):
            web = Web(*parts)
            steps, words = walk(rng, parts, "", rng.randint(0, 12))
            for at in range(len(steps) + 1):
                self.assertIs(words[at] == "-", is_derivation(web, steps[:at]))

    def test_detours(self):
        rng = random.Random(63)
        for parts, steps in ((PAIR, PAIR_STEPS), (MIXED, [("flip", 6)])):
            web = Web(*parts)
            for count in range(20):
                away, words = walk(rng, parts, "-", rng.randint(0, 10))
                self.assertIs(True, is_derivation(web, steps + away + opposite_steps(web, "-", away)))


if __name__ == "__main__":
    unittest.main()
