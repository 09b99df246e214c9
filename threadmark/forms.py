"""Forms that make tables: the strangers whose strings do not commute."""

from threadmark.errors import InvalidForm
from threadmark.joins import edge_join
from threadmark.notes import component_notes, is_form, note_of, parity_in, roots_of, rule_notes, rules_of, sum_of
from threadmark.parity import solve
from threadmark.signs import sign_of
from threadmark.tables import node_product, turned_along

# X is at 1 and Z at 2, so their product W is at the sum.
LETTERS = "1XZW"


def wanted_parities(web):
    """For each component its notes, and how many of them modulo 2 the form of a table contains."""
    return [(component_notes(web, root), 1 if web.is_odd(root) else 0) for root in roots_of(web)]


def form_sums(web):
    """The notes of each rule and then of each component, and how many of them modulo 2 the form of a table contains."""
    return [(rule_notes(web, edge, node), 0) for edge, node in rules_of(web)] + wanted_parities(web)


def solve_for_form(web, sums):
    """("solution", notes) with these parities, or ("contradiction", indexes) of sums that exclude each other."""
    notes = web.notes()
    places = {note: at for at, note in enumerate(notes)}
    equations = [([places[note] for note in some], parity) for some, parity in sums]
    kind, found = solve(equations, count=len(notes))
    return (kind, [notes[at] for at in found]) if kind == "solution" else (kind, found)


def find_form(web):
    """A form with the parities that a table needs, ascending, or None if there is none."""
    kind, found = solve_for_form(web, form_sums(web))
    return found if kind == "solution" else None


def check_form(web, form):
    """Raises InvalidForm if a list is not a form with the parities that a table needs."""
    if not is_form(web, form):
        raise InvalidForm()
    for some, parity in wanted_parities(web):
        if parity_in(form, some) != parity:
            raise InvalidForm()


# Two edges cross if their strings must not commute. Each letter settles two of them that cross, and with them all
# crossings of other edges that follow; against each edge stand the edges whose crossings with it are not settled.


def first_crossing(against):
    """The first edge with an edge against it, and that one; None if there is none."""
    for edge in against:
        if against[edge]:
            return (edge, against[edge][0])
    return None


def against_without(against, edge, one, other):
    """What stands against an edge behind the letter that settles one edge and the other."""
    lists = [against[edge]]
    if other in against[edge]:
        lists.append(against[one])
    if one in against[edge]:
        lists.append(against[other])
    return sum_of(lists)


def letters_by_form(web, form):
    """Letters for each edge, such that those of two edges commute exactly if their note is not in the form."""
    names = web.edges()
    against = {edge: [name for name in names if note_of(edge, name) in form] for edge in names}
    rows = {edge: "" for edge in names}
    crossing = first_crossing(against)
    while crossing is not None:
        one, other = crossing
        # This letter is X for the one and Z for the other, and for each edge it crosses them as the edge does.
        for edge in names:
            along = 1 if other in against[edge] else 0
            across = 1 if one in against[edge] else 0
            rows[edge] += LETTERS[along + 2 * across]
        against = {edge: against_without(against, edge, one, other) for edge in names}
        crossing = first_crossing(against)
    return rows


def table_from_form(web, form):
    """A table that holds, in which strangers commute exactly if their note is not in the form. Raises InvalidForm."""
    check_form(web, form)
    rows = letters_by_form(web, form)
    # One more letter makes the number of W even, so that no square has a sign. There all strings commute.
    table = {edge: rows[edge] + ("W" if rows[edge].count("W") % 2 == 1 else "1") for edge in rows}
    wrong = [node for node in web.nodes() if sign_of(node_product(web, table, node)) != web.mark(node)]
    return turned_along(table, edge_join(web, wrong))
