"""The errors of the package, each with its class name in lowercase as its code."""


class ThreadError(ValueError):
    """The base of the errors about wrong values; it is never raised itself."""

    def __init__(self):
        self.code = "threaderror"


class InvalidNode(ThreadError):
    """A number that is no node."""

    def __init__(self, node):
        self.code = "invalidnode"
        self.node = node


class InvalidMark(ThreadError):
    """A node whose mark is not 0 or 1."""

    def __init__(self, node):
        self.code = "invalidmark"
        self.node = node


class InvalidName(ThreadError):
    """A text that is no name of an edge."""

    def __init__(self, name):
        self.code = "invalidname"
        self.name = name


class InvalidEdge(ThreadError):
    """An edge that does not join two different nodes of its web."""

    def __init__(self, name):
        self.code = "invalidedge"
        self.name = name


class NodeTaken(ThreadError):
    """A node that the web has already."""

    def __init__(self, node):
        self.code = "nodetaken"
        self.node = node


class EdgeTaken(ThreadError):
    """A name that another edge of the web has already."""

    def __init__(self, name):
        self.code = "edgetaken"
        self.name = name


class NotBare(ThreadError):
    """A node that has edges."""

    def __init__(self, node):
        self.code = "notbare"
        self.node = node


class InvalidWord(ThreadError):
    """A text that is no word, with the position of its first wrong letter."""

    def __init__(self, position):
        self.code = "invalidword"
        self.position = position


class InvalidStep(ThreadError):
    """A step that is of no documented form or that cannot be done."""

    def __init__(self, index):
        self.code = "invalidstep"
        self.index = index


class InvalidString(ThreadError):
    """A text that is no string."""

    def __init__(self, value):
        self.code = "invalidstring"
        self.value = value


class LengthMismatch(ThreadError):
    """Strings of different lengths."""

    def __init__(self):
        self.code = "lengthmismatch"


class InvalidDrawing(ThreadError):
    """A dict that does not have the text of a drawing at a node."""

    def __init__(self, node):
        self.code = "invaliddrawing"
        self.node = node


class InvalidForm(ThreadError):
    """A list that is not the form that is needed."""

    def __init__(self):
        self.code = "invalidform"


class NoTable(ThreadError):
    """A web of which no table holds."""

    def __init__(self):
        self.code = "notable"


class LimitExceeded(ThreadError):
    """More of something than its limit allows."""

    def __init__(self, limit):
        self.code = "limitexceeded"
        self.limit = limit


class InvalidLimit(ThreadError):
    """A number that is no limit of a workshop."""

    def __init__(self, limit):
        self.code = "invalidlimit"
        self.limit = limit


class InvalidWebName(ThreadError):
    """A text under which no workshop keeps a web."""

    def __init__(self, name):
        self.code = "invalidwebname"
        self.name = name


class NameTaken(ThreadError):
    """A name under which the workshop keeps another web already."""

    def __init__(self, name):
        self.code = "nametaken"
        self.name = name


class InvalidCommand(ThreadError):
    """A tuple that is no command."""

    def __init__(self, index):
        self.code = "invalidcommand"
        self.index = index


class ParseError(ThreadError):
    """A text that is not the text of a web."""

    def __init__(self):
        self.code = "parseerror"


class InvalidDocument(ThreadError):
    """A text that is not the document of a workshop."""

    def __init__(self, line):
        self.code = "invaliddocument"
        self.line = line


class Missing(LookupError):
    """The base of the errors about things that are not there; it is never raised itself."""

    def __init__(self):
        self.code = "missing"


class UnknownNode(Missing):
    """A number that is no node of the web."""

    def __init__(self, node):
        self.code = "unknownnode"
        self.node = node


class UnknownEdge(Missing):
    """A text that is no edge of the web."""

    def __init__(self, name):
        self.code = "unknownedge"
        self.name = name


class UnknownWeb(Missing):
    """A name under which the workshop keeps no web."""

    def __init__(self, name):
        self.code = "unknownweb"
        self.name = name


class EmptyHistory(Missing):
    """No step that can be undone or redone."""

    def __init__(self):
        self.code = "emptyhistory"
