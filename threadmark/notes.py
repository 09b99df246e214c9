"""Notes: pairs of strangers, counted modulo 2 where letters are exchanged."""

from threadmark.errors import InvalidNode
from threadmark.parity import solve
from threadmark.signs import letters_of, sign_of
from threadmark.words import check_word


def note_of(one, other):
    """The text of two edges in ascending order."""
    return one + other if one < other else other + one


def turn(ones, text):
    """Puts a text into a dict, or removes it if it is there."""
    if text in ones:
        del ones[text]
    else:
        ones[text] = True


def collect(web, word):
    """The sign, the letters and the notes of a word that is brought into ascending order. Raises InvalidWord."""
    check_word(web, word)
    letters = {}
    notes = {}
    for letter in letters_of(word):
        # The letter passes all greater ones before it; an even number of equal ones writes nothing.
        for before in letters:
            if letter < before and not web.touch(letter, before):
                turn(notes, letter + before)
        turn(letters, letter)
    return (sign_of(word), "".join(sorted(letters)), sorted(notes))


def rules_of(web):
    """All rules of the web, ascending."""
    return [(edge, node) for edge in web.edges() for node in web.nodes() if node not in web.ends(edge)]


def roots_of(web):
    """The least nodes of all components, ascending."""
    return [component[0] for component in web.components()]


def rule_notes(web, edge, node):
    """The notes of a rule, ascending. Raises UnknownEdge, UnknownNode, InvalidNode."""
    ends = web.ends(edge)
    others = web.edges_of(node)
    if node in ends:
        raise InvalidNode(node)
    return sorted([note_of(edge, other) for other in others if not web.touch(edge, other)])


def component_notes(web, node):
    """The notes of the component of a node, ascending. Raises UnknownNode."""
    stars = [web.edges_of(member) for member in web.component_of(node)]
    return collect(web, "".join(stars))[2]


def sum_of(lists):
    """The texts that occur in an odd number of the lists, ascending."""
    ones = {}
    for texts in lists:
        for text in sorted(set(texts)):
            turn(ones, text)
    return sorted(ones)


def parity_in(texts, others):
    """The number of the texts that are among the others, modulo 2."""
    return len([text for text in texts if text in others]) % 2


def is_form(web, notes):
    """Whether a list of texts is a form, in ascending order and without duplicates."""
    known = web.notes()
    if list(notes) != sorted(set(notes)) or not all([note in known for note in notes]):
        return False
    return all([parity_in(rule_notes(web, edge, node), notes) == 0 for edge, node in rules_of(web)])


def note_certificate(web, node):
    """Rules whose notes sum to those of the component of a node, or a form with an odd number of these.

    Raises UnknownNode.
    """
    wanted = component_notes(web, node)
    rules = rules_of(web)
    holders = {note: [] for note in web.notes()}
    for at, (edge, there) in enumerate(rules):
        for note in rule_notes(web, edge, there):
            holders[note].append(at)
    equations = [(holders[note], 1 if note in wanted else 0) for note in holders]
    # Notes whose equations contradict each other are a form: each rule occurs in an even number of them.
    kind, found = solve(equations, count=len(rules))
    if kind == "solution":
        return ("rules", [rules[at] for at in found])
    notes = list(holders)
    return ("form", [notes[at] for at in found])


def check_note_certificate(web, node, certificate):
    """Whether a certificate is right for the component of a node. Raises UnknownNode."""
    wanted = component_notes(web, node)
    kind, items = certificate
    if kind == "form":
        return is_form(web, items) and parity_in(items, wanted) == 1
    known = rules_of(web)
    if kind != "rules" or not all([rule in known for rule in items]):
        return False
    return sum_of([rule_notes(web, edge, there) for edge, there in items]) == wanted


def is_planar_by_notes(web):
    """Whether the notes of every component are a sum of rules."""
    return all([note_certificate(web, root)[0] == "rules" for root in roots_of(web)])
