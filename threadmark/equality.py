"""Equal words: those that have the same value in every table that holds."""

from threadmark.errors import NoTable
from threadmark.forms import find_form, form_sums, solve_for_form, table_from_form
from threadmark.joins import node_sum, odd_cycle
from threadmark.notes import collect, component_notes, roots_of, rule_notes, rules_of, sum_of
from threadmark.tables import holds, turned_along, value_of
from threadmark.words import check_word, inverse, product


def odd_marks(web, nodes):
    """The number of odd nodes among these."""
    return sum([web.mark(node) for node in nodes])


def quotient(web, one, other, nodes):
    """What a word, the inverse of another one and the edges of these nodes collect to."""
    words = [one, inverse(other)] + [web.edges_of(node) for node in nodes]
    return collect(web, product(*words))


def values_differ(table, one, other):
    """Whether two words have different values in a table."""
    return value_of(table, one) != value_of(table, other)


def table_by_letters(web, form, one, other, letters):
    """A table in which the values of two words differ whose letters differ by no sum of nodes."""
    table = table_from_form(web, form)
    if values_differ(table, one, other):
        return table
    # An odd number of the letters are on the cycle, so their signs turn one value and not the other one.
    return turned_along(table, odd_cycle(web, letters))


def certificate_at(web, nodes, indexes):
    """The certificate with these nodes, and with the rules and components that the indexes of their sums name."""
    rules = rules_of(web)
    roots = roots_of(web)
    behind = len(rules)
    chosen = tuple([rules[at] for at in indexes if at < behind])
    return (tuple(nodes), chosen, tuple([roots[at - behind] for at in indexes if at >= behind]))


def compare_words(web, one, other):
    """A certificate that two words are equal, or a table in which they differ. Raises InvalidWord, NoTable."""
    check_word(web, one)
    check_word(web, other)
    form = find_form(web)
    if form is None:
        raise NoTable()
    letters = quotient(web, one, other, [])[1]
    nodes = node_sum(web, letters)
    if nodes is None:
        return ("different", table_by_letters(web, form, one, other, letters))
    sign, none_left, notes = quotient(web, one, other, nodes)
    # In the table of a form with this parity the words differ by the sign. If there is none, the sums that exclude it
    # are a certificate.
    parity = (1 + sign + odd_marks(web, nodes)) % 2
    kind, found = solve_for_form(web, form_sums(web) + [(notes, parity)])
    if kind == "solution":
        return ("different", table_from_form(web, found))
    # The last one of these sums is that of the notes themselves, since some form has the parities of the others.
    return ("same", certificate_at(web, nodes, found[:-1]))


def all_once(items, known):
    """Whether all items are known ones, and none occurs twice."""
    return len(set(items)) == len(items) and all([item in known for item in items])


def is_certificate(web, one, other, certificate):
    """Whether nodes, rules and components show that two words are equal."""
    nodes, rules, roots = certificate
    if not (all_once(nodes, web.nodes()) and all_once(rules, rules_of(web)) and all_once(roots, roots_of(web))):
        return False
    sign, letters, notes = quotient(web, one, other, nodes)
    lists = [rule_notes(web, edge, node) for edge, node in rules] + [component_notes(web, root) for root in roots]
    turns = sign + odd_marks(web, nodes) + len([root for root in roots if web.is_odd(root)])
    return letters == "" and notes == sum_of(lists) and turns % 2 == 0


def check_comparison(web, one, other, answer):
    """Whether an answer is right for two words. Raises InvalidWord."""
    check_word(web, one)
    check_word(web, other)
    kind, found = answer
    if kind == "same":
        return is_certificate(web, one, other, found)
    return kind == "different" and holds(web, found) and values_differ(found, one, other)
