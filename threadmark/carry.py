"""Steps and tables that are carried from web to web when an edge is cut or contracted."""

from threadmark.signs import letters_of
from threadmark.steps import change_by_step, opposite_steps, run_steps, words_along
from threadmark.tables import value_of
from threadmark.words import contract_word, cut_word

# The opposites of these steps are carried, and the steps back are taken.
OPPOSITES = {"cancel": "insert", "gather": "spread"}


def replacing_steps(web, node, at, here, there):
    """Steps that put some edges of a node in place of all its others, and turn the sign if the node is odd."""
    if here:
        # The first letter brings the others with it, in reverse order, so that they cancel.
        behind = at + len(there)
        cancels = [("cancel", behind + count) for count in reversed(range(len(here) - 1))]
        return [("spread", at, node, there + here[:0:-1])] + cancels
    if there:
        return [("insert", at, there[0]), ("spread", at + 1, node, there[1:])]
    return [("flip", node)] if web.mark(node) == 1 else []


class Cutting:
    """A web that loses an edge. The image stands for the edge in words; the steps begin at the position 0 of these."""

    def __init__(self, smaller, edge, image):
        self.smaller = smaller
        self.edge = edge
        self.image = image

    def changed(self, letters):
        """The letters that stand for these letters."""
        return letters.replace(self.edge, self.image)

    def place(self, letters, at):
        """The position that stands for a position among these letters."""
        return at + letters[:at].count(self.edge) * (len(self.image) - 1)

    def insert_steps(self, letter):
        """Steps for the insertion of a letter."""
        return [] if letter == self.edge else [("insert", 0, letter)]

    def swap_steps(self, pair):
        """Steps for the exchange of two letters."""
        if pair[0] == pair[1]:
            return []
        count = len(self.image) if self.edge in pair else 1
        steps = [("swap", at) for at in range(count)]
        # A letter behind the image passes its last letter first.
        return steps[::-1] if pair[0] == self.edge else steps

    def spread_steps(self, letter, node, others):
        """Steps for the spreading of a letter at a node."""
        if letter == self.edge:
            return replacing_steps(self.smaller, node, 0, self.image, others)
        return [("spread", 0, node, self.changed(others))]


class Contraction(Cutting):
    """A web that loses an edge without parallels, whose ends become one.

    The joined node has the edges of the lesser end, which are the image, and those of the greater end, the rest.
    """

    def __init__(self, web, edge):
        lesser, greater = web.ends(edge)
        super().__init__(web.contracted(edge), edge, web.edges_of(lesser).replace(edge, ""))
        self.lesser = lesser
        self.greater = greater
        self.rest = web.edges_of(greater).replace(edge, "")

    def image_for_rest(self, at):
        """Steps that put the image in place of the rest."""
        return replacing_steps(self.smaller, self.lesser, at, self.rest, self.image)

    def insert_steps(self, letter):
        """Steps for the insertion of a letter."""
        if letter != self.edge:
            return [("insert", 0, letter)]
        if self.image == "":
            return []
        both = replacing_steps(self.smaller, self.lesser, 0, "", self.image + self.rest)
        return both + self.image_for_rest(len(self.image))

    def spread_steps(self, letter, node, others):
        """Steps for the spreading of a letter at a node."""
        if node == self.greater:
            return super().spread_steps(letter, self.lesser, others)
        if node != self.lesser:
            return super().spread_steps(letter, node, others)
        if letter != self.edge:
            # At the lesser end, others contain the edge.
            fresh = others.replace(self.edge, self.rest)
            return [("spread", 0, node, fresh)] + self.image_for_rest(others.find(self.edge))
        if others == self.image:
            return []
        away = replacing_steps(self.smaller, node, 0, self.image, self.rest)
        return away + replacing_steps(self.smaller, node, 0, self.rest, others)


def local_steps(loss, kind, here, there, node):
    """Steps for a step of this kind that puts letters in place of these, as if nothing else stood in the word."""
    if kind in OPPOSITES:
        back = local_steps(loss, OPPOSITES[kind], there, here, node)
        return opposite_steps(loss.smaller, loss.changed(there), back)
    if kind == "insert":
        return loss.insert_steps(there[0])
    if kind == "swap":
        return loss.swap_steps(here)
    if kind == "spread":
        return loss.spread_steps(here, node, there)
    return [("flip", node)]


def moved(step, by):
    """The step at a position that is greater by so many."""
    return step if step[0] == "flip" else (step[0], step[1] + by) + step[2:]


def node_of(step):
    """The node of a step that has one, otherwise None."""
    if step[0] == "flip":
        return step[1]
    return step[2] if step[0] in ("spread", "gather") else None


def carried(web, word, steps, loss):
    """The steps that stand for steps from a word when a web loses an edge. Raises InvalidWord, InvalidStep."""
    run_steps(web, word, steps)
    found = []
    for before, step in zip(words_along(web, word, steps), steps):
        letters = letters_of(before)
        start, stop, fresh, turns = change_by_step(web, letters, step)
        fitting = local_steps(loss, step[0], letters[start:stop], fresh, node_of(step))
        by = loss.place(letters, start)
        found += [moved(part, by) for part in fitting]
    return found


def carry_cut(web, steps, edge, *, word=""):
    """Steps that lead from the cut word to the cut last word. Raises UnknownEdge, InvalidWord, InvalidStep."""
    return carried(web, word, steps, Cutting(web.cut(edge), edge, ""))


def carry_contract(web, steps, edge, *, word=""):
    """Steps from word to word in the contracted web. Raises UnknownEdge, InvalidWord, InvalidStep."""
    ends = web.ends(edge)
    here = web
    first = word
    found = steps
    for name in web.edges():
        if name != edge and web.ends(name) == ends:
            found = carry_cut(here, found, name, word=first)
            first = cut_word(first, name)
            here = here.cut(name)
    return carried(here, first, found, Contraction(here, edge))


def restore_cut(web, table, edge):
    """The table of a web from that of the web without an edge. Raises UnknownEdge."""
    web.check_edge(edge)
    return {name: value_of(table, cut_word(name, edge)) for name in web.edges()}


def restore_contraction(web, table, edge):
    """The table of a web from that of the web where an edge is contracted. Raises UnknownEdge."""
    web.check_edge(edge)
    return {name: value_of(table, contract_word(web, name, edge)) for name in web.edges()}
