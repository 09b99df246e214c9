"""Notes, rules and forms by plain counting; of the package, only drawings and webs are used."""

import itertools

from samples import component, split, star
from threadmark.layouts import find_drawing
from threadmark.webs import Web


def touching(parts, one, other):
    """Whether two edges share an end."""
    return bool(set(parts[1][one]) & set(parts[1][other]))


def strangers(parts):
    """The notes of all strangers, ascending."""
    pairs = itertools.combinations(sorted(parts[1]), 2)
    return [one + other for one, other in pairs if not touching(parts, one, other)]


def rules(parts):
    """All rules, ascending."""
    return [(edge, node) for edge in sorted(parts[1]) for node in sorted(parts[0]) if node not in parts[1][edge]]


def notes_of_rule(parts, edge, node):
    """The notes of a rule, ascending."""
    others = [other for other in star(parts, node) if not touching(parts, edge, other)]
    return sorted("".join(sorted(edge + other)) for other in others)


def collected(parts, word, rng=None):
    """What a word collects to, by exchanging neighbours, in any order if there is a source of choices."""
    sign, text = split(word)
    letters = list(text)
    odd = set()
    while True:
        places = [at for at in range(len(letters) - 1) if letters[at] > letters[at + 1]]
        if not places:
            break
        at = rng.choice(places) if rng else places[0]
        greater, lesser = letters[at:at + 2]
        letters[at:at + 2] = [lesser, greater]
        if not touching(parts, lesser, greater):
            odd ^= {lesser + greater}
    kept = "".join(letter for letter in sorted(set(letters)) if letters.count(letter) % 2 == 1)
    return sign, kept, sorted(odd)


def counted(parts, word):
    """What a word collects to, by counting the pairs of letters that stand in the wrong order."""
    sign, letters = split(word)
    odd = set()
    for before, after in itertools.combinations(letters, 2):
        if before > after and not touching(parts, before, after):
            odd ^= {after + before}
    kept = "".join(letter for letter in sorted(set(letters)) if letters.count(letter) % 2 == 1)
    return sign, kept, sorted(odd)


def notes_of_component(parts, node):
    """The notes of the component of a node, ascending."""
    return collected(parts, "".join(star(parts, member) for member in component(parts, node)))[2]


def even(form, some):
    """Whether a form contains an even number of some notes."""
    return sum(note in some for note in form) % 2 == 0


def is_a_form(parts, texts):
    """Whether a list is a form, ascending and without duplicates."""
    known = set(strangers(parts))
    ascending = all(one < other for one, other in zip(texts, texts[1:]))
    return ascending and set(texts) <= known and all(even(texts, notes_of_rule(parts, *rule)) for rule in rules(parts))


def forms(parts):
    """Forms of which all forms are sums."""
    free = {note: {note} for note in strangers(parts)}
    for rule in rules(parts):
        some = notes_of_rule(parts, *rule)
        uneven = [note for note in free if not even(free[note], some)]
        if uneven:
            first = free.pop(uneven[0])
            for note in uneven[1:]:
                free[note] = free[note] ^ first
    return [sorted(form) for form in free.values()]


def added(lists):
    """The sum of lists without duplicates."""
    odd = set()
    for texts in lists:
        odd ^= set(texts)
    return sorted(odd)


def is_odd(parts, node):
    """Whether the component of a node is odd."""
    return sum(parts[0][member] for member in component(parts, node)) % 2 == 1


def fits(parts, form):
    """Whether a form has the parities that a table needs."""
    return all(even(form, notes_of_component(parts, node)) != is_odd(parts, node) for node in parts[0])


def alone(parts, node):
    """The component of a node without the others."""
    members = component(parts, node)
    marks = {member: parts[0][member] for member in members}
    return marks, {name: pair for name, pair in parts[1].items() if pair[0] in members}


def has_flat_odd_component(parts):
    """Whether some odd component has a flat drawing."""
    return any(is_odd(parts, node) and find_drawing(Web(*alone(parts, node))) is not None for node in parts[0])


def roots(parts):
    """The least nodes of all components."""
    return sorted({component(parts, node)[0] for node in parts[0]})


def certifies(parts, one, other, certificate):
    """Whether nodes, rules and components show that two words are equal, by what the document says of each."""
    nodes, chosen, named = certificate
    for items, known in ((nodes, parts[0]), (chosen, rules(parts)), (named, roots(parts))):
        if len(set(items)) != len(items) or any(item not in known for item in items):
            return False
    (first, letters), (second, behind) = split(one), split(other)
    word = letters + behind[::-1] + "".join(star(parts, node) for node in nodes)
    left, notes = counted(parts, word)[1:]
    sums = [notes_of_rule(parts, *rule) for rule in chosen] + [notes_of_component(parts, root) for root in named]
    turns = first + second + sum(parts[0][node] for node in nodes) + sum(is_odd(parts, root) for root in named)
    return left == "" and notes == added(sums) and turns % 2 == 0
