"""Days that are alike: how far a shelf without a mender goes on evenly, and the leap over these days."""

from wanehold.effects import chained, no_effect, shift_effect, through, turn_effect
from wanehold.kinds import DAY, MOST_MOMENT, hour_of
from wanehold.repeats import even_times


class Course:
    """What the next day makes of a thing, as long as nothing goes and nothing moves."""

    def __init__(self, subject, effects, since, askings):
        self.subject = subject
        # What the day makes of its strength up to the end of each turn.
        self.effects = effects
        # The since behind the day, and how often it is asked for in it.
        self.since = since
        self.askings = askings
        self.drift = through(effects[-1], subject.strength) - subject.strength

    def days(self):
        """Tell for how many days, at least, each day adds the drift to its strength, and it is there all the time.

        Where that isn't for ever, the strength is still on its way behind them, so that the last day of the
        way is none of them.
        """
        wane = self.subject.wane
        if wane.phase_behind(self.since) != self.subject.phase():
            return 0
        if self.drift == 0:
            return MOST_MOMENT
        return max(0, even_times(self.effects[-1], self.subject.strength) - 1)

    def strength_behind(self, turn):
        """Tell the strength behind a turn of the day."""
        return through(self.effects[turn], self.subject.strength)

    def leap(self, days):
        """Pass the thing on by so many days, one or more, as many as are alike at most."""
        thing = self.subject
        thing.strength += days * self.drift
        thing.asked += days * self.askings
        if thing.wane.is_anew() and self.askings > 0:
            thing.since = self.since
        else:
            thing.since += days * DAY


def day_courses(shelf):
    """List the courses of all things."""
    askings = _askings(shelf)
    return [_course(shelf, thing, askings) for thing in shelf.by_names()]


def even_days(shelf, courses):
    """Tell how many days, at least, are alike: nothing goes, nothing moves, and each strength drifts evenly.

    On such days no strength that drifts is cut to its cap, as it would drift no more then: so it drifts behind
    each turn as it does behind the day, and the strengths in a room do together.
    """
    days = min([course.days() for course in courses], default=MOST_MOMENT)
    if days == 0:
        return 0
    for room, limit in enumerate(shelf.limits):
        inside = [course for course in courses if course.subject.room == room]
        drift = sum([course.drift for course in inside])
        most = max([sum([course.strength_behind(turn) for course in inside]) for turn in range(DAY)])
        days = min(days, _days_within(most, drift, limit))
    return days


def leap(shelf, courses, days):
    """Pass a shelf on by so many days, one or more, as many as are alike at most."""
    for course in courses:
        course.leap(days)
    shelf.moment += days * DAY


def _askings(shelf):
    """List, for each turn of the next day, the things that are asked for, in order."""
    hours = [hour_of(shelf.moment + turn + 1) for turn in range(DAY)]
    plans = [(shelf.things[name], plan) for _, name, plan in shelf.plans if name in shelf.things]
    return [[thing for thing, plan in plans if hour in plan] for hour in hours]


def _course(shelf, thing, askings):
    shift = shelf.shifts[thing.group]
    lifted = shift_effect(thing.wane, thing.wane.lift())
    stirred = shift_effect(thing.wane, shift)
    effect, since, many = no_effect(thing.wane), thing.since, 0
    effects = []
    for asked in askings:
        effect = chained(effect, turn_effect(thing.wane, since))
        since += 1
        for other in asked:
            if other.name == thing.name:
                effect = chained(effect, lifted)
                since = 0 if thing.wane.is_anew() else since
                many += 1
            elif shift != 0 and other.group == thing.group and other.room == thing.room:
                effect = chained(effect, stirred)
        effects.append(effect)
    return Course(thing, effects, since, many)


def _days_within(most, drift, limit):
    """Tell on how many days the most, which drifts day by day, is within the limit."""
    if most > limit:
        return 0
    if drift <= 0:
        return MOST_MOMENT
    return (limit - most) // drift + 1
