import random
import unittest

from samples import raised, random_parts, text
from shops import GOOD_NAMES, WRONG_NAMES
from threadmark.documents import dump, load
from threadmark.errors import EmptyHistory, InvalidDocument, LimitExceeded, ParseError
from threadmark.webs import Web
from threadmark.workshop import Workshop

ALL_NAMES = GOOD_NAMES + ["c", "d", "e", "f", "g"]
WRONG_ROWS = ["", " ", "k", ":", "k: ", "zzzzzzz:", "A:", "c:0", "c : 0", "c: 12"]


def random_rows(rng, most=12):
    """The lines of a document, without line feeds."""
    rows = []
    for name in sorted(rng.sample(ALL_NAMES, rng.randint(0, most))):
        written = text(random_parts(rng, rng.randint(0, 6), rng.randint(0, 6)))
        rows.append(f"{name}: {written}" if written else f"{name}:")
    return rows


def is_row(row):
    """Whether a line is written as the document says."""
    name, colon, rest = row.partition(":")
    if not colon or not 1 <= len(name) <= 6 or any(not "a" <= letter <= "z" for letter in name):
        return False
    if not rest:
        return True
    try:
        return rest[:1] == " " and rest != " " and Web.parse(rest[1:]).text() == rest[1:]
    except ParseError:
        return False


def first_wrong(document):
    """The index of the first wrong line, or None."""
    rows = document.split("\n")
    names = [row.partition(":")[0] for row in rows]
    for at, row in enumerate(rows[:-1]):
        if not is_row(row) or at == 12 or (at > 0 and names[at] <= names[at - 1]):
            return at
    return len(rows) - 1 if rows[-1] else None


def broken(rng, rows):
    """A document with one change."""
    rows = list(rows)
    at = rng.randrange(len(rows)) if rows else 0
    match rng.randint(0, 7):
        case 0:
            rows[at:at + 1] = []
        case 1:
            rows[at:at] = rows[at:at + 1]
        case 2 if len(rows) > 1:
            other = rng.randrange(len(rows))
            rows[at], rows[other] = rows[other], rows[at]
        case 3:
            rows.insert(at, rng.choice(WRONG_ROWS + ["k:", "c: 0"]))
        case 4:
            return "".join(row + "\n" for row in rows)[:-1]
        case _:
            whole = "".join(row + "\n" for row in rows)
            where = rng.randint(0, len(whole))
            what = rng.choice([*"0129abkz *;:\n-.", ""])
            return whole[:where] + what + whole[where + rng.randint(0, 1):]
    return "".join(row + "\n" for row in rows)


class DocumentsTest(unittest.TestCase):
    def check(self, document):
        """Checks what load makes of a text; returns whether it is a document."""
        wrong = first_wrong(document)
        if wrong is not None:
            raised(self, InvalidDocument, lambda: load(document), wrong)
            return False
        shop = load(document)
        self.assertEqual(Workshop, shop.__class__)
        self.assertEqual(document, dump(shop))
        self.assertEqual(((0, 0), [], 0), (shop.history(), shop.cached(), shop.computations()))
        self.assertEqual(max(8, len(shop)), shop.limit)
        self.assertEqual([row.partition(":")[0] for row in document.split("\n")[:-1]], shop.names())
        return True

    def test_dumped_texts(self):
        rng = random.Random(541)
        for count in range(80):
            shop = Workshop()
            shop.set_limit(12)
            expected = {}
            for name in rng.sample(ALL_NAMES, rng.randint(0, 12)):
                expected[name] = text(random_parts(rng, rng.randint(0, 12), rng.randint(0, 24)))
                shop.apply(("add", name, Web.parse(expected[name])))
            for name in rng.sample(shop.names(), min(2, len(shop))):
                shop.certificate(name)
            document = dump(shop)
            lines = [f"{name}: {expected[name]}\n" if expected[name] else f"{name}:\n" for name in sorted(expected)]
            self.assertEqual("".join(lines), document)
            self.assertTrue(self.check(document))
            other = load(document)
            self.assertIs(True, shop == other)
            other.apply(("add", "q", Web.empty()) if len(other) < 8 else ("remove", other.names()[0]))
            self.assertIs(False, shop == other)
            self.assertEqual(document, dump(shop))
            other.undo()
            raised(self, EmptyHistory, other.undo)
            self.assertEqual(document, dump(other))

    def test_changed_texts(self):
        rng = random.Random(542)
        seen = {True: 0, False: 0}
        for count in range(1500):
            seen[self.check(broken(rng, random_rows(rng)))] += 1
        self.assertLess(200, min(seen.values()), seen)

    def test_known_texts(self):
        self.assertEqual("", dump(Workshop()))
        self.assertEqual(Workshop(), load(""))
        shop = load("k: 0* 1; a 0 1\nn:\n")
        self.assertEqual((["k", "n"], 8), (shop.names(), shop.limit))
        self.assertEqual(["0* 1; a 0 1", ""], [shop.web(name).text() for name in shop.names()])
        for document, line in (
            ("\n", 0),
            ("k", 0),
            ("k:", 0),
            ("k\n", 0),
            (":\n", 0),
            ("k: \n", 0),
            ("k:0\n", 0),
            ("k:  0\n", 0),
            ("k: 0 \n", 0),
            ("k:: 0\n", 0),
            (" k: 0\n", 0),
            ("k : 0\n", 0),
            ("K: 0\n", 0),
            ("abcdefg: 0\n", 0),
            ("k1: 0\n", 0),
            ("k: 12\n", 0),
            ("k: 00\n", 0),
            ("k: 1 0\n", 0),
            ("k: 0 1; a 1 0\n", 0),
            ("k: 0 1;a 0 1\n", 0),
            ("k: 0 1; b 0 1; a 0 1\n", 0),
            ("k: 0\n\n", 1),
            ("k: 0\nk: 1\n", 1),
            ("k: 0\na: 1\n", 1),
            ("k: 0\nka: 1\nb:\n", 2),
            ("k: 0\nm: 1", 1),
            ("k: 0\nm: 1\nn", 2),
            ("k: 0\nM: 1\n\n", 1),
        ):
            raised(self, InvalidDocument, lambda: load(document), line)

    def test_names(self):
        for name in WRONG_NAMES:
            document = f"{name}: 0\n"
            self.assertFalse(self.check(document))
        for name in GOOD_NAMES:
            self.assertTrue(self.check(f"{name}: 0\n"))

    def test_thirteen_lines(self):
        rows = [f"{name}:\n" for name in "abcdefghijklmn"]
        for count in range(13):
            shop = load("".join(rows[:count]))
            self.assertEqual((count, max(8, count)), (len(shop), shop.limit))
        for document in ("".join(rows[:13]), "".join(rows), "".join(rows[:12]) + "m", "".join(rows[:12]) + "\n"):
            raised(self, InvalidDocument, lambda: load(document), 12)
        # A wrong line before the thirteenth one comes first.
        raised(self, InvalidDocument, lambda: load("".join(rows[:11]) + "k\n" + "".join(rows[12:])), 11)
        full = load("".join(rows[:12]))
        raised(self, LimitExceeded, lambda: full.apply(("add", "z", Web.empty())), 12)

    def test_calls_by_name(self):
        self.assertEqual("k:\n", dump(workshop=load(text="k:\n")))


if __name__ == "__main__":
    unittest.main()
