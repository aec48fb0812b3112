"""The rows that a shelf is written as, and the shelf that such rows tell."""

from wanehold.errors import NoText
from wanehold.figures import read_figures, read_signed
from wanehold.kinds import BILLION, are_hours, is_name, is_size, is_within
from wanehold.shelf import Shelf, Thing
from wanehold.store import MOST_ASKERS, MOST_ROOMS, MOST_THINGS, are_stirs, is_mark, put_fits
from wanehold.wanes import read_wane

# No number that is written has more.
FIGURES = 400
BLANK = " "
NO_MARK = "none"
THING = "thing"
TRACE = "trace"
ASKER = "asker"
STORY = "story"
WORDS = ("put", "moved", "faded", "pressed", "crowded", "taken")


def rows_of(shelf):
    """List the rows of a shelf: three of the whole, then one for each thing, trace, asker and row of the story."""
    mark = NO_MARK if shelf.mark is None else shelf.mark
    parts = [
        [shelf.moment, shelf.per_asking, shelf.per_turn, shelf.hired, mark], list(shelf.limits), list(shelf.shifts),
    ]
    for thing in shelf.by_names():
        numbers = [thing.room, thing.group, thing.strength, thing.since, thing.asked]
        parts.append([THING, thing.name, *numbers, thing.wane.text()])
    for name in sorted(shelf.traces):
        if shelf.trace_of(name) > 0:
            parts.append([TRACE, name, shelf.trace_of(name)])
    for number, name, hours in shelf.plans:
        parts.append([ASKER, number, name, *hours])
    for row in shelf.rows.listed():
        parts.append([STORY, *row])
    return [BLANK.join([str(word) for word in row]) for row in parts]


def read_rows(rows):
    """Tell the shelf that such rows tell; of others a shelf that is written otherwise, or NoText."""
    parts = [row.split(BLANK) for row in rows]
    _need(len(parts) >= 3)
    shelf = _read_whole(parts[0], parts[1], parts[2])
    for word, *given in parts[3:]:
        _need(word in READERS)
        read = READERS[word]
        read(shelf, given)
    _need(len(shelf.things) <= MOST_THINGS and len(shelf.plans) <= MOST_ASKERS)
    _need(all([shelf.sum_in(room) <= limit for room, limit in enumerate(shelf.limits)]))
    return shelf


def _number(word):
    number = read_figures(word, FIGURES)
    _need(number is not None)
    return number


def _need(fits):
    if not fits:
        raise NoText()


def _read_whole(numbers, rooms, stirs):
    _need(len(numbers) == 5)
    moment, grain, fade, hired = [_number(word) for word in numbers[:4]]
    mark = None if numbers[4] == NO_MARK else _number(numbers[4])
    limits = [_number(word) for word in rooms]
    shifts = [read_signed(word, FIGURES) for word in stirs]
    _need(is_size(grain) and is_within(fade, 1, BILLION) and is_mark(mark) and are_stirs(shifts))
    _need(len(limits) <= MOST_ROOMS and min(limits) >= 1)
    shelf = Shelf(limits, shifts, grain, fade)
    shelf.moment = moment
    shelf.hired = hired
    shelf.mark = mark
    return shelf


def _read_thing(shelf, words):
    _need(len(words) > 6)
    room, sort, strength, since, asked = [_number(word) for word in words[1:6]]
    wane = read_wane(BLANK.join(words[6:]))
    _need(all(put_fits(words[0], sort, wane, strength)) and room < len(shelf.limits))
    thing = Thing(words[0], sort, wane, strength)
    thing.room = room
    thing.since = since
    thing.asked = asked
    shelf.things[thing.name] = thing


def _read_trace(shelf, words):
    _need(len(words) == 2 and is_name(words[0]) and words[0] not in shelf.things)
    shelf.traces[words[0]] = (_number(words[1]), shelf.moment)


def _read_asker(shelf, words):
    _need(len(words) > 2 and is_name(words[1]))
    number, hours = _number(words[0]), tuple([_number(word) for word in words[2:]])
    last = shelf.plans[-1][0] if shelf.plans else 0
    _need(last < number <= shelf.hired and are_hours(hours))
    shelf.plans.append((number, words[1], hours))


def _read_story(shelf, words):
    _need(len(words) == 4 and is_name(words[1]) and words[2] in WORDS)
    moment, room = _number(words[0]), _number(words[3])
    _need(moment <= shelf.moment and room < len(shelf.limits))
    shelf.rows.write((moment, words[1], words[2], room))


READERS = {"thing": _read_thing, "trace": _read_trace, "asker": _read_asker, "story": _read_story}
