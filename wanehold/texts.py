"""Stores written as texts, and read back."""

from wanehold.checks import refuse_wrong
from wanehold.effects import BEYOND_FIGURES
from wanehold.errors import NoText
from wanehold.written import read_rows, rows_of
from wanehold.store import is_store, store_of

LINE = "\n"
# A prime: where just one sign is another one, what is left of the text is another one, too.
PRIME = 10 ** 9 + 7
BASE = 131


def write_store(store):
    """Write a store, as read_store reads it."""
    refuse_wrong([is_store(store)])
    if max(store.shelf.limits) >= BEYOND_FIGURES:
        raise ValueError("a room has more figures than a store that is written may have")
    text = LINE.join(rows_of(store.shelf))
    return text + LINE + _mark_of(text)


def read_store(text):
    """Read a store back from its text; whatever else it is, it is refused with NoText."""
    if not isinstance(text, str):
        raise NoText()
    rows, _, mark = text.rpartition(LINE)
    if mark != _mark_of(rows):
        raise NoText()
    shelf = read_rows(rows.split(LINE))
    # Only what is written just so is what the store itself would write.
    if LINE.join(rows_of(shelf)) != rows:
        raise NoText()
    return store_of(shelf)


def _mark_of(text):
    """Tell the figures that stand behind a text, so that it can't be another one by one sign."""
    mark = 0
    for sign in text:
        mark = (mark * BASE + ord(sign)) % PRIME
    return f"{mark:010d}"
