"""Certificates: what shows that a web has a derivation, or that it has a table that holds."""

from threadmark.derivations import find_derivation
from threadmark.realizations import find_table
from threadmark.steps import is_derivation
from threadmark.tables import holds, size_of, value_of


class Certificate:
    """The base of the certificates: it shows nothing of its web."""

    LABEL = "certificate"

    def __init__(self, web):
        self.shown = web

    def web(self):
        """The web."""
        return self.shown

    def describe(self):
        """The label and the web in words."""
        return f"{self.LABEL} of {self.shown!r}"

    def is_valid(self):
        """Whether the certificate shows what it claims."""
        return False


class Derivation(Certificate):
    """Steps that are claimed to be a derivation of a web."""

    LABEL = "derivation"

    def __init__(self, web, steps):
        super().__init__(web)
        self.listed = list(steps)

    def __len__(self):
        return len(self.listed)

    def steps(self):
        """The steps."""
        return list(self.listed)

    def describe(self):
        """The label, the web and the number of steps in words."""
        return super().describe() + f" in {len(self.listed)} steps"

    def is_valid(self):
        """Whether the steps are a derivation of the web."""
        return is_derivation(self.shown, self.listed)


class TableCertificate(Certificate):
    """A table that is claimed to hold in a web."""

    LABEL = "table"

    def __init__(self, web, table):
        super().__init__(web)
        self.rows = dict(table)

    def __call__(self, word):
        """The value of a word. Raises InvalidWord."""
        return value_of(self.rows, word)

    def table(self):
        """The table."""
        return dict(self.rows)

    def describe(self):
        """The label, the web and the length of the strings in words."""
        return super().describe() + f" with strings of {size_of(self.rows)} letters"

    def is_valid(self):
        """Whether the table holds in the web."""
        return holds(self.shown, self.rows)


def certificate_of(web):
    """A valid derivation of the web if there is one, otherwise a valid table."""
    steps = find_derivation(web)
    if steps is not None:
        return Derivation(web, steps)
    return TableCertificate(web, find_table(web))
