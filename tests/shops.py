"""A workshop by plain bookkeeping, without the package, and commands for it."""

import string

from samples import NAMES, random_parts, text
from smaller import contracted_parts, cut_parts
from threadmark.webs import Web

SIZES = {"add": 3, "copy": 3, "remove": 2, "cut": 3, "contract": 3, "link": 5, "node": 3, "turn": 3}
GOOD_NAMES = ["a", "b", "k", "kk", "zz", "abcdef", "zzzzzz", "m"]
WRONG_NAMES = ["", "A", "abcdefg", "a1", "a b", "-", "k\n", " k", "k:"]


class Fault(Exception):
    """The name of the error class and its field, as a list."""

    def __init__(self, kind, *fields):
        self.expected = (kind, list(fields))


def is_name(name):
    return 1 <= len(name) <= 6 and set(name) <= set(string.ascii_lowercase)


def parts_of(web):
    """The marks and edges of a web."""
    return {node: web.mark(node) for node in web.nodes()}, {edge: web.ends(edge) for edge in web.edges()}


def need(condition, kind, *fields):
    if not condition:
        raise Fault(kind, *fields)


def added(webs, limit, name, parts):
    need(is_name(name), "InvalidWebName", name)
    need(name not in webs, "NameTaken", name)
    need(len(webs) < limit, "LimitExceeded", limit)
    return {**webs, name: parts}


def linked(parts, edge, one, other):
    marks, edges = parts
    need(len(edge) == 1 and edge in NAMES, "InvalidName", edge)
    need(edge not in edges, "EdgeTaken", edge)
    need(one in marks, "UnknownNode", one)
    need(other in marks, "UnknownNode", other)
    need(one != other, "InvalidEdge", edge)
    return marks, {**edges, edge: (one, other)}


def with_node(parts, node):
    need(0 <= node <= 11, "InvalidNode", node)
    need(node not in parts[0], "NodeTaken", node)
    return {**parts[0], node: 0}, parts[1]


def turned(parts, node):
    need(node in parts[0], "UnknownNode", node)
    return {**parts[0], node: 1 - parts[0][node]}, parts[1]


def shrunk(parts, edge, smaller):
    need(edge in parts[1], "UnknownEdge", edge)
    return smaller(parts, edge)


def after(webs, limit, command):
    """All webs behind a command, or a fault."""
    kind, name, *rest = command
    if kind == "add":
        return added(webs, limit, name, parts_of(rest[0]))
    need(name in webs, "UnknownWeb", name)
    parts = webs[name]
    match kind:
        case "copy":
            return added(webs, limit, rest[0], parts)
        case "remove":
            return {kept: webs[kept] for kept in webs if kept != name}
        case "cut":
            return {**webs, name: shrunk(parts, rest[0], cut_parts)}
        case "contract":
            return {**webs, name: shrunk(parts, rest[0], contracted_parts)}
        case "link":
            return {**webs, name: linked(parts, *rest)}
        case "node":
            return {**webs, name: with_node(parts, *rest)}
        case "turn":
            return {**webs, name: turned(parts, *rest)}


def texts(webs):
    return {name: text(parts) for name, parts in webs.items()}


class Model:
    """What a workshop does, with webs as marks and edges."""

    def __init__(self):
        self.webs = {}
        self.limit = 8
        self.past = []
        self.future = []
        self.cached = set()
        self.computed = 0

    def behind(self, commands):
        for index, command in enumerate(commands):
            need(command and SIZES.get(command[0]) == len(command), "InvalidCommand", index)
        webs = self.webs
        for command in commands:
            webs = after(webs, self.limit, command)
        return webs

    def move(self, webs):
        old = texts(self.webs)
        new = texts(webs)
        self.cached = {name for name in self.cached if name in new and new[name] == old[name]}
        self.webs = webs

    def apply_all(self, commands):
        webs = self.behind(commands)
        self.past.append(self.webs)
        self.future = []
        self.move(webs)

    def trial(self, commands):
        return texts(self.behind(commands))

    def undo(self):
        need(self.past, "EmptyHistory")
        self.future.append(self.webs)
        self.move(self.past.pop())

    def redo(self):
        need(self.future, "EmptyHistory")
        self.past.append(self.webs)
        self.move(self.future.pop())

    def set_limit(self, value):
        need(1 <= value <= 12 and value >= len(self.webs), "InvalidLimit", value)
        self.limit = value

    def certificate(self, name):
        need(name in self.webs, "UnknownWeb", name)
        if name not in self.cached:
            self.cached.add(name)
            self.computed += 1

    def listing(self):
        lines = []
        for name in sorted(self.webs):
            parts = self.webs[name]
            line = name + " " * (6 - len(name)) + " " + ("%2d" % len(parts[0])) + " " + ("%02d" % len(parts[1]))
            lines.append(line + " " + text(parts)[:24])
        return lines

    def document(self):
        lines = [name + ":" + (" " + text(self.webs[name]) if self.webs[name][0] else "") for name in sorted(self.webs)]
        return "".join(line + "\n" for line in lines)


def random_command(rng, webs):
    """A command for these webs; about every third one is wrong in some way."""
    wrong = rng.random() < 0.3
    free = [name for name in GOOD_NAMES if name not in webs] or GOOD_NAMES
    fresh = rng.choice(GOOD_NAMES + WRONG_NAMES) if wrong else rng.choice(free)
    name = rng.choice(sorted(webs)) if webs and rng.random() < 0.9 else rng.choice(GOOD_NAMES + WRONG_NAMES)
    marks, edges = webs.get(name, ({}, {}))
    edge = rng.choice([*NAMES, "y", "", "ab", "-"]) if wrong or not edges else rng.choice(sorted(edges))
    node = rng.randint(-1, 12) if wrong or not marks else rng.choice(sorted(marks))
    match rng.choice([*SIZES, "add", "add"]):
        case "add":
            return ("add", fresh, Web(*random_parts(rng, rng.randint(0, 12), rng.randint(0, 24))))
        case "copy":
            return ("copy", name, fresh)
        case "remove":
            return ("remove", name)
        case "link":
            unused = [name for name in NAMES if name not in edges] or list(NAMES)
            return ("link", name, edge if wrong else rng.choice(unused), node, rng.choice([*marks, rng.randint(0, 12)]))
        case "node":
            return ("node", name, rng.randint(-1, 12))
        case "turn":
            return ("turn", name, node)
        case kind:
            return (kind, name, edge)


def malformed(rng, command):
    """A tuple that is no command."""
    return rng.choice([
        (),
        ("",) + command[1:],
        (command[0].upper(),) + command[1:],
        ("undo",),
        ("show", "k"),
        command[:-1],
        command + ("a",),
        command + (0, 1),
        (command[0],),
    ])


def random_commands(rng, webs, most=5):
    """A list of commands that often fit to each other."""
    commands = []
    for count in range(rng.randint(0, most)):
        command = random_command(rng, webs)
        commands.append(command)
        try:
            webs = after(webs, 12, command)
        except Fault:
            if rng.random() < 0.7:
                commands.pop()
    return commands
