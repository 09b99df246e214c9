"""Documents: a workshop as a text with one line for each name."""

from threadmark.errors import InvalidDocument, ParseError
from threadmark.webs import Web
from threadmark.workshop import Workshop, is_web_name, workshop_with


def line_of(name, web):
    """The line of a web, without the line feed."""
    text = web.text()
    return f"{name}: {text}" if text else f"{name}:"


def dump(workshop):
    """The document of a workshop."""
    return "".join([line_of(name, workshop.web(name)) + "\n" for name in workshop.names()])


def entry_in(line):
    """The name and the web of a line, or None if it is not the line of a web."""
    name, colon, text = line.partition(":")
    if not is_web_name(name):
        return None
    try:
        web = Web.parse(text.removeprefix(" "))
    except ParseError:
        return None
    # A missing colon, or a space too many or too few, only shows when the line is written again.
    return (name, web) if line_of(name, web) == line else None


def load(text):
    """The workshop of a document. Raises InvalidDocument."""
    lines = text.split("\n")
    rest = lines.pop()
    webs = {}
    last = ""
    for index, line in enumerate(lines):
        entry = entry_in(line)
        if entry is None or entry[0] <= last or index == Workshop.MAX_LIMIT:
            raise InvalidDocument(index)
        last, web = entry
        webs[last] = web
    if rest != "":
        raise InvalidDocument(len(lines))
    return workshop_with(webs)
