"""What several tests hand in, and how they look at a refusal."""

from wanehold.errors import Wrong
from wanehold.wanes import Wane


def strange_things():
    """Things of no kind that any question asks for: no number, text, tuple or list."""
    return [
        None, True, False, {}, {"head": []}, set(), {1, 2}, frozenset([1]), b"", b"a", range(3), object(),
        int, str, Wane, len, lambda: 1, iter([1]), ValueError("a"), Wane([], [(1, 0)], cap=1, lift=0),
    ]


def shown(thing):
    """A short text of a thing; a number may have more figures than repr writes."""
    if isinstance(thing, int):
        return hex(thing)[:40]
    return repr(thing)[:80]


def wrong_place(case, call, *given, **named):
    """Tell the place with which the call is refused."""
    with case.assertRaises(Wrong) as caught:
        call(*given, **named)
    case.assertIs(type(caught.exception), Wrong)
    return caught.exception.place
