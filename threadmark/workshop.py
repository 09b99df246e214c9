"""The workshop: webs under names, with history and with cached certificates."""

from threadmark.certificates import certificate_of
from threadmark.errors import (
    EmptyHistory,
    InvalidCommand,
    InvalidLimit,
    InvalidWebName,
    LimitExceeded,
    NameTaken,
    UnknownWeb,
)

NAME_LETTERS = "abcdefghijklmnopqrstuvwxyz"
LONGEST_NAME = 6
FIRST_LIMIT = 8

# For each command the number of its items.
SIZES = {
    "add": 3,
    "copy": 3,
    "remove": 2,
    "cut": 3,
    "contract": 3,
    "link": 5,
    "node": 3,
    "turn": 3,
}


def is_web_name(text):
    """Whether a workshop can keep a web under this name."""
    return 1 <= len(text) <= LONGEST_NAME and all([letter in NAME_LETTERS for letter in text])


def web_named(webs, name):
    """The web of this name. Raises UnknownWeb."""
    if name not in webs:
        raise UnknownWeb(name)
    return webs[name]


# Each of the following functions returns all webs as they are behind one kind of command, and leaves the dict that it
# is passed as it was. So the dicts of earlier steps need no copies.


def webs_after_add(webs, limit, name, web):
    """Behind an add. Raises InvalidWebName, NameTaken, LimitExceeded."""
    if not is_web_name(name):
        raise InvalidWebName(name)
    if name in webs:
        raise NameTaken(name)
    if len(webs) >= limit:
        raise LimitExceeded(limit)
    return {**webs, name: web}


def webs_after_copy(webs, limit, name, fresh):
    """Behind a copy. Raises UnknownWeb and the errors of an add."""
    return webs_after_add(webs, limit, fresh, web_named(webs, name))


def webs_after_remove(webs, limit, name):
    """Behind a remove. Raises UnknownWeb."""
    web_named(webs, name)
    return {kept: webs[kept] for kept in webs if kept != name}


def webs_after_cut(webs, limit, name, edge):
    """Behind a cut. Raises UnknownWeb, UnknownEdge."""
    return {**webs, name: web_named(webs, name).cut(edge)}


def webs_after_contract(webs, limit, name, edge):
    """Behind a contract. Raises UnknownWeb, UnknownEdge."""
    return {**webs, name: web_named(webs, name).contracted(edge)}


def webs_after_link(webs, limit, name, edge, one, other):
    """Behind a link. Raises UnknownWeb and the errors of with_edge."""
    return {**webs, name: web_named(webs, name).with_edge(edge, one, other)}


def webs_after_node(webs, limit, name, node):
    """Behind a node. Raises UnknownWeb and the errors of with_node."""
    return {**webs, name: web_named(webs, name).with_node(node)}


def webs_after_turn(webs, limit, name, node):
    """Behind a turn. Raises UnknownWeb, UnknownNode."""
    return {**webs, name: web_named(webs, name).turned(node)}


ACTIONS = {
    "add": webs_after_add,
    "copy": webs_after_copy,
    "remove": webs_after_remove,
    "cut": webs_after_cut,
    "contract": webs_after_contract,
    "link": webs_after_link,
    "node": webs_after_node,
    "turn": webs_after_turn,
}


def check_commands(commands):
    """Raises InvalidCommand with the index of the first tuple that is no command."""
    for index, command in enumerate(commands):
        if len(command) == 0 or command[0] not in SIZES or len(command) != SIZES[command[0]]:
            raise InvalidCommand(index)


def webs_behind(webs, limit, commands):
    """All webs behind a list of commands. Raises InvalidCommand and the errors of the commands."""
    check_commands(commands)
    here = webs
    for command in commands:
        webs_after = ACTIONS[command[0]]
        parts = command[1:]
        here = webs_after(here, limit, *parts)
    return here


class Workshop:
    """Webs under names, with steps that can be undone and redone."""

    MAX_LIMIT = 12

    def __init__(self):
        self.webs = {}
        self.most = FIRST_LIMIT
        # The webs before each step that can be undone, and behind each step that can be redone; the next one is last.
        self.past = []
        self.future = []
        self.shelf = {}
        self.computed = 0

    def __eq__(self, other):
        return isinstance(other, Workshop) and self.webs == other.webs

    def __len__(self):
        return len(self.webs)

    def __repr__(self):
        return f"Workshop({len(self.webs)} webs)"

    @property
    def limit(self):
        """The greatest number of names."""
        return self.most

    @limit.setter
    def limit(self, value):
        """Sets the greatest number of names. Raises InvalidLimit."""
        if not 1 <= value <= self.MAX_LIMIT or value < len(self.webs):
            raise InvalidLimit(value)
        self.most = value

    def set_limit(self, value):
        """Sets the greatest number of names. Raises InvalidLimit."""
        self.limit = value

    def move_to(self, webs):
        """Takes other webs, and drops the certificates of webs that are gone or differ."""
        kept = [name for name in self.shelf if name in webs and webs[name] == self.webs[name]]
        self.shelf = {name: self.shelf[name] for name in kept}
        self.webs = webs

    def apply(self, command):
        """Runs one command as a step. Raises InvalidCommand and the errors of the command."""
        self.apply_all([command])

    def apply_all(self, commands):
        """Runs all commands as one step, or none. Raises InvalidCommand and the errors of the commands."""
        webs = webs_behind(self.webs, self.most, commands)
        self.past.append(self.webs)
        self.future = []
        self.move_to(webs)

    def trial(self, commands):
        """The texts of all webs as they would be behind these commands. Raises the errors of `apply_all`."""
        webs = webs_behind(self.webs, self.most, commands)
        return {name: webs[name].text() for name in sorted(webs)}

    def undo(self):
        """Undoes the last step. Raises EmptyHistory."""
        if not self.past:
            raise EmptyHistory()
        self.future.append(self.webs)
        self.move_to(self.past.pop())

    def redo(self):
        """Redoes the step that was undone last. Raises EmptyHistory."""
        if not self.future:
            raise EmptyHistory()
        self.past.append(self.webs)
        self.move_to(self.future.pop())

    def history(self):
        """The numbers of steps that can be undone and redone."""
        return (len(self.past), len(self.future))

    def listing(self):
        """One line for each name, in columns."""
        lines = []
        for name in self.names():
            web = self.webs[name]
            begin = web.text()[:24]
            lines.append(f"{name:<6} {len(web.nodes()):>2} {len(web):02d} {begin}")
        return lines

    def names(self):
        """The names, ascending."""
        return sorted(self.webs)

    def web(self, name):
        """The web of a name. Raises UnknownWeb."""
        return web_named(self.webs, name)

    def certificate(self, name):
        """The certificate of a web, computed at the first request. Raises UnknownWeb."""
        web = web_named(self.webs, name)
        if name not in self.shelf:
            self.shelf[name] = certificate_of(web)
            self.computed += 1
        return self.shelf[name]

    def cached(self):
        """The names with cached certificates, ascending."""
        return sorted(self.shelf)

    def computations(self):
        """How many certificates were computed."""
        return self.computed

    def clone(self):
        """A workshop with the same webs, steps, limit, cache and number of computations."""
        twin = Workshop()
        twin.webs = self.webs
        twin.most = self.most
        twin.past = list(self.past)
        twin.future = list(self.future)
        twin.shelf = dict(self.shelf)
        twin.computed = self.computed
        return twin


def workshop_with(webs):
    """A workshop with these webs, without history and cache."""
    workshop = Workshop()
    workshop.webs = dict(webs)
    workshop.most = max(FIRST_LIMIT, len(webs))
    return workshop
