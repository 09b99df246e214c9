"""The faults of tables, and tables with faults."""

import itertools

from samples import split, star
from threadmark.strings import multiply


def letters(text):
    return split(text)[1]


def first_fault(parts, table):
    """The first fault by going through everything that the document names."""
    marks, edges = parts
    names = sorted(edges)
    wrong = sorted(set(edges) ^ set(table))
    if wrong:
        return ("edge", wrong[0])
    for name in names:
        if set(letters(table[name])) - set("1XZW"):
            return ("string", name)
    for name in names:
        if len(letters(table[name])) != len(letters(table[names[0]])):
            return ("length", name)
    for name in names:
        if table[name].count("W") % 2 == 1:
            return ("square", name)
    for one, other in itertools.combinations(names, 2):
        if set(edges[one]) & set(edges[other]):
            if multiply(table[one], table[other]) != multiply(table[other], table[one]):
                return ("pair", one, other)
    for node in sorted(marks):
        total = multiply(*[table[name] for name in star(parts, node)])
        if set(letters(total)) - {"1"} or total.count("-") != marks[node]:
            return ("node", node)
    return None


def spoiled(rng, table):
    """A table with one or two changes."""
    changed = dict(table)
    for count in range(rng.randint(1, 2)):
        name = rng.choice(sorted(changed) or ["a"])
        text = changed.get(name, "")
        at = rng.randint(0, len(text))
        match rng.randint(0, 7):
            case 0:
                changed.pop(name, None)
            case 1:
                changed[rng.choice(["", "y", "A", "ab", "x", "w", "-"])] = text
            case 2:
                changed[name] = text[:at] + rng.choice("Yx-+ ") + text[at:]
            case 3:
                changed[name] = text[:at] + rng.choice("1XZ") + text[at:]
            case 4:
                changed[name] = letters(text).replace("1", "Z", 1)
            case 5:
                changed[name] = letters(text).replace("X", "W", 1)
            case 6:
                changed[name] = letters(text) if text[:1] == "-" else "-" + text
            case 7:
                changed[name] = text.replace("X", "Z")
    return changed
