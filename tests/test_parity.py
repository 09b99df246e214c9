import random
import unittest

from threadmark.parity import solve


def solvable(equations, count):
    """Whether trying all values finds a solution."""
    masks = [(sum(1 << unknown for unknown in unknowns), value) for unknowns, value in equations]
    return any(all((values & mask).bit_count() % 2 == value for mask, value in masks) for values in range(1 << count))


def summed(one, other):
    """The sum of two equations."""
    return sorted(set(one[0]) ^ set(other[0])), one[1] ^ other[1]


def random_equations(rng, count, most):
    """Equations many of which are sums of others, some of them with the other value."""
    equations = []
    for at in range(rng.randint(0, most)):
        if len(equations) > 1 and rng.random() < 0.6:
            unknowns, value = summed(*rng.sample(equations, 2))
            if rng.random() < 0.15:
                value = 1 - value
        else:
            unknowns = rng.sample(range(count), rng.randint(0, count))
            value = rng.randint(0, 1)
            # A fresh equation without unknowns would mostly be a contradiction by itself.
            value = value if unknowns or rng.random() < 0.2 else 0
        rng.shuffle(unknowns)
        equations.append((rng.choice([list, tuple])(unknowns), value))
    return equations


class SolveTest(unittest.TestCase):
    def check(self, equations, count):
        """Checks an answer by the equations; returns its text."""
        kept = [(unknowns.__class__(unknowns), value) for unknowns, value in equations]
        answer = solve(equations, count=count)
        self.assertEqual(kept, list(equations))
        self.assertEqual(tuple, answer.__class__)
        kind, found = answer
        self.assertEqual(list, found.__class__)
        self.assertEqual(sorted(set(found)), found)
        if kind == "solution":
            self.assertLessEqual(set(found), set(range(count)))
            for unknowns, value in equations:
                self.assertEqual(value, sum(unknown in found for unknown in unknowns) % 2)
        else:
            self.assertEqual("contradiction", kind)
            self.assertLessEqual(set(found), set(range(len(equations))))
            self.assertEqual(1, sum(equations[at][1] for at in found) % 2)
            for unknown in range(count):
                self.assertEqual(0, sum(unknown in equations[at][0] for at in found) % 2)
        return kind

    def test_small_systems(self):
        rng = random.Random(311)
        seen = {"solution": 0, "contradiction": 0}
        for at in range(1200):
            count = rng.randint(0, 9)
            equations = random_equations(rng, count, 12)
            kind = self.check(equations if at % 2 else tuple(equations), count)
            self.assertIs(solvable(equations, count), kind == "solution")
            seen[kind] += 1
        self.assertLess(200, min(seen.values()), seen)

    def test_edges(self):
        self.assertEqual(("solution", []), solve([], count=0))
        self.assertEqual(("solution", []), solve((), count=0))
        self.assertEqual("solution", self.check([], 5))
        self.assertEqual(("solution", []), solve([([], 0), ((), 0)], count=0))
        self.assertEqual(("contradiction", [1]), solve([([], 0), ([], 1)], count=0))
        self.assertEqual(("contradiction", [2]), solve([([0], 1), ([1, 0], 0), ((), 1)], count=2))
        self.assertEqual(("solution", [0]), solve([([0], 1)], count=1))
        self.assertEqual(("contradiction", [0, 1]), solve([([3], 0), ([3], 1)], count=4))
        self.assertEqual("solution", self.check([([2, 0], 1)], 3))

    def test_rings(self):
        for turns in (0, 1, 2, 199, 200):
            equations = [([at, (at + 1) % 400], 1 if at < turns else 0) for at in range(400)]
            expected = "contradiction" if turns % 2 else "solution"
            self.assertEqual(expected, self.check(equations, 400))
            self.assertEqual(expected, self.check(equations[::-1], 400))
            random.Random(turns).shuffle(equations)
            self.assertEqual(expected, self.check(equations, 400))

    def test_large_systems(self):
        rng = random.Random(312)
        for count in (100, 400):
            ones = set(rng.sample(range(count), count // 2))
            equations = []
            for at in range(400):
                unknowns = rng.sample(range(count), count // 3)
                equations.append((unknowns, sum(unknown in ones for unknown in unknowns) % 2))
            self.assertEqual("solution", self.check(equations, count))
            equations[-1] = summed(summed(equations[0], equations[7]), ([], 1))
            self.assertEqual("contradiction", self.check(equations, count))

    def test_equal_arguments_give_equal_results(self):
        rng = random.Random(313)
        for at in range(50):
            equations = random_equations(rng, 6, 10)
            first = solve(equations, count=6)
            kept = (first[0], list(first[1]))
            first[1].append(9)
            self.assertEqual(kept, solve(equations, count=6))
            self.assertEqual(kept, solve(tuple((tuple(unknowns), value) for unknowns, value in equations), count=6))

    def test_count_is_passed_by_name(self):
        with self.assertRaises(TypeError):
            solve([], 0)


if __name__ == "__main__":
    unittest.main()
