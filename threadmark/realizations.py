"""Tables that hold, for every web that has one."""

from threadmark.forms import find_form, table_from_form


def find_table(web):
    """A table that holds, or None if there is none."""
    form = find_form(web)
    return None if form is None else table_from_form(web, form)
