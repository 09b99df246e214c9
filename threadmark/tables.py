"""Tables: a string for each edge of a web, such that no step changes the value of a word."""

from threadmark.errors import InvalidWord
from threadmark.signs import letters_of, sign_of, signed
from threadmark.strings import commute, identity, is_string, multiply


def edge_fault(web, table):
    """The fault of the least text that is an edge or a key, but not both."""
    without_string = [name for name in web.edges() if name not in table]
    without_edge = [name for name in table if name not in web]
    odd_ones = without_string + without_edge
    return ("edge", min(odd_ones)) if odd_ones else None


# Each of the following functions relies on the absence of the faults above it.


def string_fault(web, table):
    """The fault of the least edge whose text is no string."""
    for name in web.edges():
        if not is_string(table[name]):
            return ("string", name)
    return None


def length_fault(web, table):
    """The fault of the least edge whose string is not as long as that of the least edge."""
    for name in web.edges():
        if len(letters_of(table[name])) != size_of(table):
            return ("length", name)
    return None


def square_fault(web, table):
    """The fault of the least edge whose square has a sign."""
    for name in web.edges():
        if sign_of(multiply(table[name], table[name])) == 1:
            return ("square", name)
    return None


def pair_fault(web, table):
    """The fault of the least pair of edges that touch and do not commute."""
    names = web.edges()
    for one in names:
        for other in names:
            if one < other and web.touch(one, other) and not commute(table[one], table[other]):
                return ("pair", one, other)
    return None


def node_product(web, table, node):
    """The product of the strings of the edges of a node, in ascending order."""
    strings = [table[name] for name in web.edges_of(node)]
    return multiply(*strings)


def node_fault(web, table):
    """The fault of the least node with a wrong product of its edges."""
    for node in web.nodes():
        product = node_product(web, table, node)
        if product != signed(web.mark(node), identity(len(letters_of(product)))):
            return ("node", node)
    return None


FAULTS = (edge_fault, string_fault, length_fault, square_fault, pair_fault, node_fault)


def table_fault(web, table):
    """The first fault of a table of a web, or None if it holds."""
    for fault_in in FAULTS:
        fault = fault_in(web, table)
        if fault is not None:
            return fault
    return None


def holds(web, table):
    """Whether a table of a web holds."""
    return table_fault(web, table) is None


def size_of(table):
    """The number of letters of the string of the least key, 0 if there is none."""
    return len(letters_of(table[min(list(table))])) if table else 0


def turned_along(table, edges):
    """The table with the other sign for each edge in a text."""
    return {name: signed(sign_of(table[name]) + edges.count(name), letters_of(table[name])) for name in table}


def value_of(table, word):
    """The value of a word in a table whose strings have one length. Raises InvalidWord."""
    letters = letters_of(word)
    for position, letter in enumerate(letters):
        if letter not in table:
            raise InvalidWord(position)
    strings = [identity(size_of(table))] + [table[letter] for letter in letters]
    product = multiply(*strings)
    return signed(sign_of(word) + sign_of(product), letters_of(product))
