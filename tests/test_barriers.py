import random
import unittest

from samples import NAMES, many_parts, shuffled
from shapes import barred_parts, flat, is_barrier, is_drawing, joined, mixed_parts, without
from threadmark.barriers import check_barrier, find_barrier
from threadmark.drawings import is_flat
from threadmark.layouts import find_drawing
from threadmark.webs import Web

BIG = 10 ** 29


def replaced(items, at, item):
    """A tuple with another item at a place."""
    return items[:at] + (item,) + items[at + 1:]


def changed_corners(rng, corners):
    """Corners with one change."""
    at = rng.randrange(len(corners))
    other = rng.randrange(len(corners))
    match rng.randint(0, 5):
        case 0:
            return replaced(corners, at, rng.choice([-1, 12, BIG, -BIG]))
        case 1:
            return replaced(corners, at, rng.randrange(12))
        case 2:
            return replaced(corners, at, corners[other])
        case 3:
            return corners[:at] + corners[at + 1:]
        case 4:
            return corners + (rng.randrange(12),)
        case 5:
            return replaced(replaced(corners, at, corners[other]), other, corners[at])


def changed_path(rng, path):
    """A path with one change."""
    at = rng.randrange(len(path) + 1)
    match rng.randint(0, 5):
        case 0:
            return path[:at] + rng.choice(NAMES + "yA- \n") + path[at:]
        case 1:
            return path[:at] + path[at + 1:]
        case 2:
            return path[::-1]
        case 3:
            return path[:at] + rng.choice(NAMES) + path[at + 1:]
        case 4:
            return path[:at] + path[at:at + 1] * 2 + path[at:]
        case 5:
            return rng.choice(["", "-" + path, path + "-"])


def changed_barrier(rng, barrier):
    """A barrier with one changed corner, path or order."""
    corners, paths = barrier
    at = rng.randrange(len(paths))
    other = rng.randrange(len(paths))
    match rng.randint(0, 4):
        case 0:
            return changed_corners(rng, corners), paths
        case 1:
            return corners, replaced(paths, at, changed_path(rng, paths[at]))
        case 2:
            return corners, replaced(replaced(paths, at, paths[other]), other, paths[at])
        case 3:
            return corners, paths[:at] + paths[at + 1:]
        case 4:
            return corners, paths + (paths[other],)


def reordered(rng, barrier):
    """The same barrier with its corners in another order."""
    corners, paths = barrier
    by_pair = {}
    for (one, other), path in zip(joined(len(corners)), paths):
        by_pair[(corners[one], corners[other])] = path
        by_pair[(corners[other], corners[one])] = path[::-1]
    if len(corners) == 5:
        fresh = tuple(rng.sample(corners, 5))
    else:
        sides = [rng.sample(corners[:3], 3), rng.sample(corners[3:], 3)]
        rng.shuffle(sides)
        fresh = tuple(sides[0] + sides[1])
    return fresh, tuple(by_pair[(fresh[one], fresh[other])] for one, other in joined(len(fresh)))


class FindBarrierTest(unittest.TestCase):
    def check(self, parts):
        """Checks that there is exactly one of a flat drawing and a barrier; returns which."""
        web = Web(*parts)
        drawing = find_drawing(web)
        barrier = find_barrier(web)
        self.assertIsNot(drawing is None, barrier is None)
        if barrier is None:
            self.assertTrue(is_drawing(parts, drawing))
            self.assertTrue(flat(parts, drawing))
            self.assertIs(True, is_flat(web, drawing))
            return "drawing"
        self.assertEqual([tuple, tuple, tuple], [value.__class__ for value in (barrier, *barrier)])
        self.assertEqual({str}, {path.__class__ for path in barrier[1]})
        self.assertTrue(is_barrier(parts, barrier))
        self.assertIs(True, check_barrier(web, barrier))
        return len(barrier[0])

    def test_exactly_one(self):
        rng = random.Random(231)
        seen = {"drawing": 0, 5: 0, 6: 0}
        for count in range(500):
            seen[self.check(mixed_parts(rng))] += 1
        for parts in many_parts(150, 232):
            seen[self.check(parts)] += 1
        self.assertLess(30, min(seen.values()), seen)

    def test_barred_webs(self):
        rng = random.Random(233)
        for count in range(150):
            parts, barrier = barred_parts(rng)
            self.assertIn(self.check(parts), (5, 6))
        for count in range(60):
            parts, barrier = barred_parts(rng, False)
            self.assertEqual(len(barrier[0]), self.check(parts))
            # Nothing but the barrier is there, so any edge that is missing makes room for a drawing.
            self.assertEqual("drawing", self.check(without(parts, rng.choice("".join(barrier[1])))))

    def test_known_webs(self):
        self.assertIsNone(find_barrier(Web.empty()))
        self.assertIsNone(find_barrier(Web({3: 1}, {})))
        self.assertIsNone(find_barrier(Web.complete(4)))
        self.assertEqual(5, len(find_barrier(Web.complete(5))[0]))
        self.assertEqual(6, len(find_barrier(Web.bipartite(3, 3))[0]))
        self.assertIs(True, check_barrier(Web.complete(7), find_barrier(Web.complete(7))))
        for web in (Web.complete(5), Web.bipartite(3, 3)):
            for edge in web.edges():
                self.assertIsNone(find_barrier(web.cut(edge)))

    def test_equal_webs_give_equal_barriers(self):
        rng = random.Random(234)
        for count in range(80):
            parts = barred_parts(rng)[0]
            web = Web(*parts)
            text = web.text()
            barrier = find_barrier(web)
            self.assertEqual(barrier, find_barrier(web))
            self.assertEqual(barrier, find_barrier(Web(*shuffled(rng, parts))))
            self.assertEqual(text, web.text())


class CheckBarrierTest(unittest.TestCase):
    def check(self, parts, barrier):
        expected = is_barrier(parts, barrier)
        self.assertIs(expected, check_barrier(Web(*parts), barrier), barrier)
        return expected

    def test_changed_barriers(self):
        rng = random.Random(235)
        seen = {True: 0, False: 0}
        for count in range(250):
            parts, barrier = barred_parts(rng)
            self.assertTrue(self.check(parts, barrier))
            barrier = reordered(rng, barrier)
            self.assertTrue(self.check(parts, barrier))
            for change in range(15):
                seen[self.check(parts, changed_barrier(rng, barrier))] += 1
            self.assertFalse(self.check(without(parts, rng.choice("".join(barrier[1]))), barrier))
        self.assertLess(50, seen[True])
        self.assertLess(2000, seen[False])

    def test_wrong_numbers(self):
        web = Web.complete(7)
        corners, paths = find_barrier(web)
        for count in range(8):
            for length in range(12):
                some = (corners + (0, 1, 2))[:count], (paths + paths)[:length]
                self.assertIs(count == 5 and length == 10, check_barrier(web, some))
        self.assertIs(False, check_barrier(web, ((), ())))
        self.assertIs(False, check_barrier(Web.empty(), ((0, 1, 2, 3, 4), tuple("abcdefghij"))))

    def test_paths_that_meet(self):
        # Five corners with parallel edges, a detour over node 5 between 0 and 1, and one over 5 and 6 there.
        web = Web.complete(5)
        for node in (5, 6):
            web = web.with_node(node)
        for name, one, other in [
            ("k", 0, 5), ("l", 5, 1), ("m", 5, 6), ("n", 6, 5), ("o", 5, 2), ("p", 0, 1), ("q", 6, 1), ("r", 6, 0),
        ]:
            web = web.with_edge(name, one, other)
        paths = tuple("abcdefghij")
        corners = (0, 1, 2, 3, 4)
        for path, expected in [
            ("a", True), ("p", True), ("kl", True), ("kmq", True), ("knq", True), ("rnl", True), ("rq", True),
            # Twice over node 5, over corner 2, over the ends again, and not from corner 0 to corner 1.
            ("kmnl", False), ("koe", False), ("be", False), ("aap", False), ("apa", False), ("ko", False),
            ("lk", False), ("", False), ("k", False), ("kk", False), ("aa", False), ("ay", False), ("-a", False),
            ("A", False), ("rrkl", False), ("qr", False),
        ]:
            self.assertIs(expected, check_barrier(web, (corners, (path,) + paths[1:])), path)
        # Both the path from 0 to 1 and the one from 0 to 2 meet node 5.
        self.assertIs(True, check_barrier(web, (corners, ("a", "ko") + paths[2:])))
        self.assertIs(True, check_barrier(web, (corners, ("rq", "ko") + paths[2:])))
        self.assertIs(False, check_barrier(web, (corners, ("kl", "ko") + paths[2:])))

    def test_six_corners_have_sides(self):
        web = Web.bipartite(3, 3)
        paths = tuple("abcdefghi")
        self.assertIs(True, check_barrier(web, ((0, 1, 2, 3, 4, 5), paths)))
        self.assertIs(True, check_barrier(web, ((3, 4, 5, 0, 1, 2), tuple("adgbehcfi"))))
        self.assertIs(False, check_barrier(web, ((3, 4, 5, 0, 1, 2), paths)))
        self.assertIs(False, check_barrier(web, ((0, 1, 3, 2, 4, 5), paths)))
        self.assertIs(False, check_barrier(web, ((0, 1, 2, 3, 4, 4), paths)))
        self.assertIs(False, check_barrier(web, ((0, 1, 2, 3, 4, 6), paths)))
        self.assertIs(False, check_barrier(web, ((0, 1, 2, 3, 4), paths + ("a",))))


if __name__ == "__main__":
    unittest.main()
