"""What several tests hand in, and how they look at a refusal, at what a call takes, and at whole numbers."""

import sys

from wanehold.errors import Wrong
from wanehold.wanes import Wane

FAR = 10 ** 30
BILLION = 10 ** 9


def strange_things():
    """Things of no kind that any question asks for: no number, text, tuple or list."""
    return [
        None, True, False, {}, {"head": []}, set(), {1, 2}, frozenset([1]), b"", b"a", range(3), object(),
        int, str, Wane, len, lambda: 1, iter([1]), ValueError("a"), Wane([], [(1, 0)], cap=1, lift=0),
    ]


def not_moments():
    """Things that are no moment."""
    return [-1, FAR + 1, 10 ** 40, -FAR, "0", "", [], [0], (), (0,), *strange_things()]


def not_wanes():
    """Things that are no wane."""
    things = [thing for thing in strange_things() if not isinstance(thing, Wane)]
    return [0, 1, "", "| 1-1 cap 9 lift 0 on", [], [(1, 0)], (), *things]


def not_names():
    """Things that are no name."""
    return ["", "A", "aB", "waneholds", "a b", "a1", " a", "a\n", 0, 1, ["a"], ("a",), [], (), *strange_things()]


def shown(thing):
    """A short text of a thing; a number may have more figures than repr writes."""
    if isinstance(thing, int):
        return hex(thing)[:40]
    return repr(thing)[:80]


def wrong_place(case, call, *given, **named):
    """Tell the place with which the call is refused."""
    with case.assertRaises(Wrong) as caught:
        call(*given, **named)
    case.assertIs(type(caught.exception), Wrong)
    return caught.exception.place


def calls_of(call, *given, **named):
    """Tell what a call tells, and how many calls it takes beneath it."""
    many = 0

    def count(_, word, __):
        nonlocal many
        if word in ("call", "c_call"):
            many += 1

    before = sys.getprofile()
    sys.setprofile(count)
    try:
        told = call(*given, **named)
    finally:
        sys.setprofile(before)
    return told, many


def all_whole(things):
    """Tell whether all are whole numbers and no truths."""
    return all(type(thing) is int for thing in things)
