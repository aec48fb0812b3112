"""The rows that a desk is told: which there are, and what their words mean."""

from wanehold.errors import NoRow, NoText
from wanehold.figures import MOST_FIGURES, read_figures, read_signed
from wanehold.kinds import are_hours, is_name, is_within
from wanehold.store import are_rooms, are_stirs
from wanehold.wanes import read_wane

BLANK = " "
STIRS = "stirs"
NO_MARK = "none"
# By the first word what stands behind it; HOURS, ROOMS and WANE, always last, are all the words that are left.
SHAPES = {
    "new": "NAME SIZE FADE ROOMS", "copy": "NAME NAME", "drop": "NAME",
    "put": "NAME NAME SORT STRENGTH WANE", "ask": "NAME NAME", "take": "NAME NAME", "hire": "NAME NAME HOURS",
    "dismiss": "NAME MOMENT", "mend": "NAME MARK", "pass": "NAME MOMENT",
    "names": "", "there": "NAME", "now": "NAME", "total": "NAME PLACE", "trace": "NAME NAME", "thing": "NAME NAME",
    "story": "NAME", "back": "", "again": "",
}
# The least and the greatest of each kind of number.
BOUNDS = {
    "SIZE": (0, 10 ** 9), "FADE": (1, 10 ** 9), "SORT": (0, 9), "STRENGTH": (1, 10 ** 9), "MOMENT": (0, 10 ** 30),
    "PLACE": (0, 3),
}


def read_order(row):
    """Tell the tuple (word, things) of a row; whatever is none of the rows is refused with NoRow."""
    word = row.split(BLANK, 1)[0] if isinstance(row, str) else ""
    _need(word in SHAPES)
    kinds = SHAPES[word].split()
    # Where nothing stands behind the word a blank is too many, so it is split off there, too.
    parts = row.split(BLANK, max(1, len(kinds)))[1:]
    _need(len(parts) == len(kinds))
    things = [_read(kind, part) for kind, part in zip(kinds, parts)]
    if word == "put":
        strength, wane = things[3:]
        _need(strength <= wane.cap())
    return word, things


def _need(fits):
    if not fits:
        raise NoRow()


def _read(kind, part):
    if kind in BOUNDS:
        least, most = BOUNDS[kind]
        return _read_number(part, least, most)
    read = READERS[kind]
    return read(part)


def _read_number(part, least, most):
    number = read_figures(part, MOST_FIGURES)
    _need(is_within(number, least, most))
    return number


def _read_name(part):
    _need(is_name(part))
    return part


def _read_mark(part):
    return None if part == NO_MARK else _read("STRENGTH", part)


def _read_hours(part):
    hours = tuple([read_figures(word, MOST_FIGURES) for word in part.split(BLANK)])
    _need(are_hours(hours))
    return hours


def _read_rooms(part):
    """Tell the tuple (rooms, stirs), stirs None where none are told."""
    words = part.split(BLANK)
    stirs = None
    if STIRS in words:
        place = words.index(STIRS)
        stirs = [read_signed(word, MOST_FIGURES) for word in words[place + 1:]]
        _need(are_stirs(stirs))
        words = words[:place]
    rooms = [read_figures(word, MOST_FIGURES) for word in words]
    _need(are_rooms(rooms))
    return rooms, stirs


def _read_wane(part):
    try:
        return read_wane(part)
    except NoText:
        raise NoRow() from None


READERS = {
    "NAME": _read_name, "MARK": _read_mark, "HOURS": _read_hours, "ROOMS": _read_rooms, "WANE": _read_wane,
}
