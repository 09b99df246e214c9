import unittest

from samples import check_functions, raised
from threadmark import barriers, drawings, errors, layouts
from threadmark.webs import Web

FUNCTIONS = {
    drawings: {
        "check_drawing": "(web, drawing)",
        "faces": "(web, drawing)",
        "is_flat": "(web, drawing)",
    },
    layouts: {
        "blocks": "(web)",
        "find_drawing": "(web)",
    },
    barriers: {
        "find_barrier": "(web)",
        "check_barrier": "(web, barrier)",
    },
}


class InterfaceTest(unittest.TestCase):
    def test_functions(self):
        check_functions(self, FUNCTIONS)


class CallsByNameTest(unittest.TestCase):
    def setUp(self):
        self.web = Web({0: 0, 1: 0, 3: 1}, {"b": (1, 0), "a": (0, 1)})

    def test_drawings(self):
        drawing = {1: "ba", 0: "ab"}
        self.assertIsNone(drawings.check_drawing(drawing=drawing, web=self.web))
        expected = [[("a", 0), ("b", 1)], [("a", 1), ("b", 0)]]
        self.assertEqual(expected, drawings.faces(drawing=drawing, web=self.web))
        self.assertIs(True, drawings.is_flat(drawing=drawing, web=self.web))
        raised(self, errors.InvalidDrawing, lambda: drawings.is_flat(drawing={3: "a"}, web=self.web), 0)
        self.assertEqual([(1, "ba"), (0, "ab")], list(drawing.items()))

    def test_layouts(self):
        self.assertEqual(["ab"], layouts.blocks(web=self.web))
        self.assertEqual([0, 1], sorted(layouts.find_drawing(web=self.web)))

    def test_barriers(self):
        web = Web.bipartite(3, 3)
        barrier = barriers.find_barrier(web=web)
        self.assertIs(True, barriers.check_barrier(barrier=barrier, web=web))
        self.assertIs(False, barriers.check_barrier(barrier=barrier, web=self.web))

    def test_returned_values_are_new(self):
        web = Web.complete(4)
        for call in (layouts.blocks, layouts.find_drawing):
            self.assertIsNot(call(web), call(web))


if __name__ == "__main__":
    unittest.main()
