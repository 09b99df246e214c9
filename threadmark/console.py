"""The console: lines of words that work on a workshop."""

from threadmark.equality import compare_words
from threadmark.errors import Missing, ParseError, ThreadError
from threadmark.layouts import find_drawing
from threadmark.webs import Web

# For each line, except for `add`, what stands behind its first word: w is any word, n is the number of a node.
SHAPES = {
    "copy": "ww",
    "remove": "w",
    "cut": "ww",
    "contract": "ww",
    "link": "wwnn",
    "node": "wn",
    "turn": "wn",
    "undo": "",
    "redo": "",
    "names": "",
    "show": "w",
    "decide": "w",
    "flat": "w",
    "equal": "www",
}


def is_number(word):
    """Whether a word is a number of one or two digits without leading zeros."""
    return word in [str(number) for number in range(100)]


def add_command(words):
    """The command of the words behind `add`, or None if they are no name and web."""
    if len(words) == 0:
        return None
    try:
        return ("add", words[0], Web.parse(" ".join(words[1:])))
    except ParseError:
        return None


def command_in(line):
    """The first word of a line and what the others mean, or None if the line has no documented form."""
    words = line.split(" ")
    if "" in words:
        return None
    first = words[0]
    others = words[1:]
    if first == "add":
        return add_command(others)
    if first not in SHAPES or len(SHAPES[first]) != len(others):
        return None
    command = [first]
    for kind, word in zip(SHAPES[first], others):
        if kind == "n" and not is_number(word):
            return None
        command.append(int(word) if kind == "n" else word)
    return tuple(command)


def done_undo(workshop):
    """Answers `undo`."""
    workshop.undo()
    return "ok"


def done_redo(workshop):
    """Answers `redo`."""
    workshop.redo()
    return "ok"


def told_names(workshop):
    """Answers `names`."""
    return " ".join(workshop.names()) or "none"


def shown_web(workshop, name):
    """Answers `show`."""
    return workshop.web(name).text() or "empty"


def decided(workshop, name):
    """Answers `decide`."""
    certificate = workshop.certificate(name)
    return certificate.LABEL


def told_flat(workshop, name):
    """Answers `flat`."""
    return "no" if find_drawing(workshop.web(name)) is None else "yes"


def word_meant(word):
    """The word of a web that is written so in a line."""
    return "" if word == "." else word


def told_equal(workshop, name, one, other):
    """Answers `equal`."""
    kind, shown = compare_words(workshop.web(name), word_meant(one), word_meant(other))
    return "yes" if kind == "same" else "no"


# The other lines are commands of the workshop.
ANSWERS = {
    "undo": done_undo,
    "redo": done_redo,
    "names": told_names,
    "show": shown_web,
    "decide": decided,
    "flat": told_flat,
    "equal": told_equal,
}


def answer_to(workshop, command):
    """The answer to a command. Raises the errors of the workshop."""
    if command[0] in ANSWERS:
        answer = ANSWERS[command[0]]
        parts = command[1:]
        return answer(workshop, *parts)
    workshop.apply(command)
    return "ok"


def answer_or_error(workshop, line):
    """The answer to a line, whatever it is."""
    command = command_in(line)
    if command is None:
        return "invalid"
    try:
        return answer_to(workshop, command)
    except (ThreadError, Missing) as error:
        return f"error {error.code}"


class Console:
    """Runs lines on a workshop and records them with their answers."""

    def __init__(self, workshop):
        self.workshop = workshop
        self.records = []

    def __len__(self):
        return len(self.records)

    def run(self, line):
        """The answer to a line."""
        answer = answer_or_error(self.workshop, line)
        self.records.append((line, answer))
        return answer

    def log(self):
        """All lines with their answers."""
        return list(self.records)
