"""Wanes: the ways in which a strength wanes turn by turn, and is lifted."""

from wanehold.checks import refuse_wrong
from wanehold.errors import NoText, Wrong
from wanehold.figures import MOST_FIGURES, read_figures
from wanehold.kinds import MOST_MOMENT, is_moment, is_size, is_step, is_strength, is_within

MOST_HEAD = 24
TAILS = (1, 2, 3, 4, 6, 8, 12, 24)
BAR = "|"
ANEW = "anew"
# The words behind the steps: cap and lift, each with its number, then anew or on.
LAST_WORDS = 5


class Wane:
    """A head and a tail of steps, a cap, a lift, and whether the steps begin anew."""

    def __init__(self, head, tail, *, cap, lift, anew=True):
        refuse_wrong([
            _is_head(head), _is_tail(tail), is_strength(cap), is_size(lift), isinstance(anew, bool),
        ])
        self._head = tuple(head)
        self._tail = tuple(tail)
        self._steps = self._head + self._tail
        self._cap = cap
        self._lift = lift
        self._anew = anew

    def head(self):
        """Tell the steps of the head."""
        return list(self._head)

    def tail(self):
        """Tell the steps of the tail."""
        return list(self._tail)

    def cap(self):
        """Tell what no lift goes beyond."""
        return self._cap

    def lift(self):
        """Tell by how much an asking lifts."""
        return self._lift

    def is_anew(self):
        """Tell whether the steps begin again at an asking."""
        return self._anew

    def step(self, number):
        """Tell the step with this number, from 1 on."""
        refuse_wrong([is_within(number, 1, MOST_MOMENT)])
        return self.step_behind(number - 1)

    def phase(self, since):
        """Tell the since, less whole tails where it is beyond head and tail."""
        refuse_wrong([is_moment(since)])
        return self.phase_behind(since)

    def text(self):
        """Write the wane, as read_wane reads it."""
        words = [_step_word(step) for step in self._head]
        words.append(BAR)
        words.extend([_step_word(step) for step in self._tail])
        words.extend(["cap", str(self._cap), "lift", str(self._lift)])
        words.append(ANEW if self._anew else "on")
        return " ".join(words)

    def step_behind(self, since):
        """Tell the next step behind so many, which may be more than may be handed in."""
        return self._steps[self.phase_behind(since)]

    def phase_behind(self, since):
        """Tell the phase of a since, which may be more than may be handed in."""
        lead = len(self._head)
        if since < lead:
            return since
        return lead + (since - lead) % len(self._tail)


def is_wane(thing):
    """Tell whether it is a wane."""
    return isinstance(thing, Wane)


def is_level(wane, thing):
    """Tell whether it is a strength up to the cap of what should be a wane, or 0."""
    return is_wane(wane) and is_within(thing, 0, wane.cap())


def read_wane(text):
    """Read a wane back from its text; whatever else it is, it is refused with NoText."""
    words = text.split(" ") if isinstance(text, str) else []
    if BAR not in words or len(words) < LAST_WORDS:
        raise NoText()
    bar = words.index(BAR)
    head = [_read_step(word) for word in words[:bar]]
    tail = [_read_step(word) for word in words[bar + 1:-LAST_WORDS]]
    cap, lift = read_figures(words[-4], MOST_FIGURES), read_figures(words[-2], MOST_FIGURES)
    try:
        wane = Wane(head, tail, cap=cap, lift=lift, anew=words[-1] == ANEW)
    except Wrong:
        raise NoText() from None
    # Only what is written just so is what the wane itself would write.
    if wane.text() != text:
        raise NoText()
    return wane


def _is_head(thing):
    return _are_steps(thing) and len(thing) <= MOST_HEAD


def _is_tail(thing):
    return _are_steps(thing) and len(thing) in TAILS


def _are_steps(thing):
    return isinstance(thing, list) and all([is_step(step) for step in thing])


def _step_word(step):
    by, take = step
    return f"{by}-{take}"


def _read_step(word):
    by, _, take = word.partition("-")
    return read_figures(by, MOST_FIGURES), read_figures(take, MOST_FIGURES)
