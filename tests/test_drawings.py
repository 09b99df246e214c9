import random
import unittest

from samples import many_parts, raised, shuffled, star
from shapes import barred_parts, faces_of, flat, flat_parts, is_drawing, joined_nodes, random_drawing
from threadmark.drawings import check_drawing, faces, is_flat
from threadmark.errors import InvalidDrawing
from threadmark.layouts import find_drawing
from threadmark.webs import Web

BIG = 10 ** 29


def drawn_parts(count, seed):
    """Webs of many kinds, each with a drawing."""
    rng = random.Random(seed)
    webs = many_parts(count, seed, 8, 14) + [flat_parts(rng, 9, 16) for at in range(count)]
    return [(parts, random_drawing(rng, parts)) for parts in webs]


def first_fault(parts, drawing):
    """The least integer that does not have the text of a drawing, or None."""
    expected = {node: star(parts, node) for node in joined_nodes(parts)}
    for node in sorted(set(expected) | set(drawing)):
        if "".join(sorted(drawing.get(node, "-"))) != expected.get(node, "+"):
            return node
    return None


def spoiled(rng, parts, drawing):
    """A drawing with up to four changes, its keys in another order."""
    changed = dict(drawing)
    for count in range(rng.randint(1, 4)):
        node = rng.choice(sorted(changed) or [0])
        text = changed.get(node, "")
        at = rng.randrange(len(text)) if text else 0
        match rng.randint(0, 6):
            case 0:
                changed[node] = text[:at] + text[at + 1:]
            case 1:
                changed[node] = text[:at] + text[at:at + 1] + text[at:]
            case 2:
                changed[node] = text[:at] + rng.choice("abcwxyA- \n") + text[at + 1:]
            case 3:
                changed.pop(node, None)
            case 4:
                changed[rng.choice([-1, -2, -BIG, 12, BIG])] = rng.choice(["", "a", text])
            case 5:
                changed[rng.choice(range(12))] = rng.choice(["", text])
            case 6:
                changed[node] = text[::-1]
    keys = list(changed)
    rng.shuffle(keys)
    return {key: changed[key] for key in keys}


class FacesTest(unittest.TestCase):
    def test_faces(self):
        for parts, drawing in drawn_parts(250, 201):
            web = Web(*parts)
            kept = list(drawing.items())
            found = faces(web, drawing)
            self.assertEqual(faces_of(parts, drawing), found)
            self.assertEqual(sorted(found), found)
            self.assertEqual([min(face) for face in found], [face[0] for face in found])
            darts = sorted(dart for face in found for dart in face)
            self.assertEqual(sorted((name, end) for name, pair in parts[1].items() for end in pair), darts)
            self.assertEqual(kept, list(drawing.items()))

    def test_kinds_of_values(self):
        web = Web({0: 0, 1: 0, 7: 1}, {"a": (0, 1), "b": (1, 0)})
        found = faces(web, {1: "ab", 0: "ab"})
        self.assertEqual([[("a", 0), ("b", 1)], [("a", 1), ("b", 0)]], found)
        self.assertEqual(list, found.__class__)
        self.assertEqual({list}, {face.__class__ for face in found})
        self.assertEqual({tuple}, {dart.__class__ for face in found for dart in face})

    def test_known_faces(self):
        leaf = Web({3: 0, 2: 0}, {"x": (2, 3)})
        self.assertEqual([[("x", 2), ("x", 3)]], faces(leaf, {2: "x", 3: "x"}))
        star_web = Web({0: 0, 1: 0, 2: 0, 3: 0}, {"a": (0, 1), "b": (0, 2), "c": (0, 3)})
        drawing = {0: "acb", 1: "a", 2: "b", 3: "c"}
        walk = [("a", 0), ("a", 1), ("c", 0), ("c", 3), ("b", 0), ("b", 2)]
        self.assertEqual([walk], faces(star_web, drawing))
        twisted = Web({0: 0, 1: 0}, {"a": (0, 1), "b": (0, 1), "c": (0, 1)})
        once = [("a", 0), ("b", 1), ("c", 0), ("a", 1), ("b", 0), ("c", 1)]
        self.assertEqual([once], faces(twisted, {0: "abc", 1: "abc"}))
        self.assertEqual([], faces(Web.empty(), {}))
        self.assertEqual([], faces(Web({1: 1, 4: 0}, {}), {}))

    def test_cyclic_orders_may_begin_anywhere(self):
        rng = random.Random(202)
        for parts, drawing in drawn_parts(60, 203):
            turned = {}
            for node, text in drawing.items():
                at = rng.randrange(len(text))
                turned[node] = text[at:] + text[:at]
            self.assertEqual(faces(Web(*parts), drawing), faces(Web(*shuffled(rng, parts)), turned))

    def test_returned_lists_are_new(self):
        web = Web.complete(4)
        drawing = find_drawing(web)
        first = faces(web, drawing)
        kept = [list(face) for face in first]
        first[0].append("b")
        first.pop()
        self.assertEqual(kept, faces(web, drawing))


class WrongDrawingsTest(unittest.TestCase):
    def check(self, parts, drawing):
        web = Web(*parts)
        kept = list(drawing.items())
        fault = first_fault(parts, drawing)
        self.assertIs(fault is None, is_drawing(parts, drawing))
        for call in (check_drawing, faces, is_flat):
            if fault is None:
                call(web, drawing)
            else:
                raised(self, InvalidDrawing, lambda: call(web, drawing), fault)
        self.assertEqual(kept, list(drawing.items()))
        return fault

    def test_spoiled_drawings(self):
        rng = random.Random(204)
        wrong = 0
        for parts, drawing in drawn_parts(150, 205):
            self.assertIsNone(self.check(parts, drawing))
            for count in range(8):
                wrong += self.check(parts, spoiled(rng, parts, drawing)) is not None
        self.assertLess(1500, wrong)

    def test_known_faults(self):
        parts = ({0: 0, 1: 0, 2: 1, 5: 0, 6: 0}, {"a": (0, 1), "b": (1, 2), "c": (1, 2)})
        right = {0: "a", 1: "bca", 2: "cb"}
        self.assertIsNone(check_drawing(Web(*parts), right))
        for change, fault in [
            ({0: ""}, 0), ({0: "b"}, 0), ({0: "aa"}, 0), ({1: "bc"}, 1), ({1: "abcb"}, 1), ({2: "ca"}, 2),
            ({5: ""}, 5), ({6: "a"}, 6), ({3: ""}, 3), ({11: "a"}, 11), ({12: ""}, 12), ({-1: ""}, -1),
            ({BIG: "", 6: ""}, 6), ({BIG: "", -BIG: ""}, -BIG), ({BIG: "a"}, BIG), ({2: "", 1: "", 5: ""}, 1),
        ]:
            self.assertEqual(fault, self.check(parts, {**right, **change}), change)
            self.assertEqual(fault, self.check(parts, {**change, **right, **change}), change)
        self.assertEqual(0, self.check(parts, {}))
        self.assertEqual(1, self.check(parts, {2: "cb", 0: "a"}))
        self.assertEqual(2, self.check(parts, {1: "abc", 0: "a"}))
        self.assertEqual(4, self.check(({4: 1}, {}), {4: ""}))
        self.assertEqual(0, self.check(({}, {}), {0: ""}))

    def test_checking_returns_nothing(self):
        self.assertIsNone(check_drawing(Web.empty(), {}))


class FlatTest(unittest.TestCase):
    def test_by_counting_faces(self):
        seen = {True: 0, False: 0}
        for parts, drawing in drawn_parts(300, 206):
            expected = flat(parts, drawing)
            seen[expected] += 1
            self.assertIs(expected, is_flat(Web(*parts), drawing))
            turned = {node: text[::-1] for node, text in drawing.items()}
            self.assertIs(expected, is_flat(Web(*parts), turned))
        self.assertLess(100, min(seen.values()), seen)

    def test_orders_with_two_edges_exchanged(self):
        rng = random.Random(207)
        seen = {True: 0, False: 0}
        for count in range(150):
            parts = flat_parts(rng)
            web = Web(*parts)
            drawing = find_drawing(web)
            self.assertIs(True, is_flat(web, drawing))
            node = rng.choice(sorted(drawing))
            text = list(drawing[node])
            rng.shuffle(text)
            drawing[node] = "".join(text)
            expected = flat(parts, drawing)
            seen[expected] += 1
            self.assertIs(expected, is_flat(web, drawing))
        self.assertLess(20, min(seen.values()), seen)

    def test_two_components(self):
        edges = {"a": (0, 1), "b": (0, 1), "c": (0, 1), "d": (2, 3), "e": (2, 3), "f": (2, 3)}
        web = Web({node: 0 for node in range(5)}, edges)
        for first, second, expected in [
            ("acb", "dfe", True), ("abc", "dfe", False), ("acb", "def", False), ("abc", "def", False),
        ]:
            drawing = {0: "abc", 1: first, 2: "def", 3: second}
            self.assertIs(expected, is_flat(web, drawing))

    def test_components_do_not_make_up_for_each_other(self):
        # A tree beside a ring: the faces of both together are as many as those of other webs.
        edges = {"a": (0, 1), "b": (0, 1), "c": (2, 3)}
        self.assertIs(True, is_flat(Web({node: 1 for node in range(4)}, edges), {0: "ab", 1: "ab", 2: "c", 3: "c"}))

    def test_no_drawing_of_a_barred_web_is_flat(self):
        rng = random.Random(208)
        for count in range(100):
            parts = barred_parts(rng)[0]
            self.assertIs(False, is_flat(Web(*parts), random_drawing(rng, parts)))

    def test_bare_nodes_and_empty_web(self):
        self.assertIs(True, is_flat(Web.empty(), {}))
        self.assertIs(True, is_flat(Web({0: 1, 11: 0}, {}), {}))
        self.assertIs(True, is_flat(Web({0: 1, 5: 1, 11: 0}, {"a": (0, 11)}), {0: "a", 11: "a"}))


if __name__ == "__main__":
    unittest.main()
