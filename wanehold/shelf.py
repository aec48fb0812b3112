"""What a store keeps, and what askings, turns and crowding make of it."""

from wanehold.kinds import hour_of
from wanehold.single import behind_asking, behind_turn
from wanehold.story import Story

PUT = "put"
MOVED = "moved"
FADED = "faded"
PRESSED = "pressed"
CROWDED = "crowded"
TAKEN = "taken"


class Thing:
    """A thing that is there; its group is the number of its sort."""

    def __init__(self, name, group, wane, strength):
        self.name = name
        self.group = group
        self.wane = wane
        self.room = 0
        self.strength = strength
        self.since = 0
        self.asked = 0

    def doubled(self):
        """Tell a thing just like this one."""
        other = Thing(self.name, self.group, self.wane, self.strength)
        other.room = self.room
        other.since = self.since
        other.asked = self.asked
        return other

    def phase(self):
        """Tell the phase of its since."""
        return self.wane.phase_behind(self.since)


class Shelf:
    """What a store keeps: each deed here takes it as given that the store let it pass."""

    def __init__(self, limits, shifts, per_asking, per_turn):
        self.limits = tuple(limits)
        self.shifts = tuple(shifts)
        # What a trace is given for each asking, and what it loses turn by turn.
        self.per_asking = per_asking
        self.per_turn = per_turn
        self.moment = 0
        self.things = {}
        # By name the tuple (number, moment) of what is gone.
        self.traces = {}
        # The askers: tuples (number, name, hours), by number.
        self.plans = []
        self.hired = 0
        self.mark = None
        self.rows = Story()

    def doubled(self):
        """Tell a shelf just like this one."""
        other = Shelf(self.limits, self.shifts, self.per_asking, self.per_turn)
        other.moment = self.moment
        other.things = {name: thing.doubled() for name, thing in self.things.items()}
        other.traces = dict(self.traces)
        other.plans = list(self.plans)
        other.hired = self.hired
        other.mark = self.mark
        other.rows = self.rows.doubled()
        return other

    def by_names(self):
        """List the things by their names."""
        return [self.things[name] for name in sorted(self.things)]

    def in_room(self, room):
        """List the things in a room."""
        return [thing for thing in self.things.values() if thing.room == room]

    def sum_in(self, room):
        """Tell the strengths in a room together."""
        return sum([thing.strength for thing in self.in_room(room)])

    def states(self):
        """Tell the tuple of the states of all things, by their names."""
        return tuple([(thing.name, thing.room, thing.strength, thing.phase()) for thing in self.by_names()])

    def trace_of(self, name):
        """Tell the trace of a name, 0 of one that left none."""
        number, moment = self.traces.get(name, (0, self.moment))
        return max(0, number - self.per_turn * (self.moment - moment))

    def add_row(self, thing, word):
        """Write into the story what happened to a thing, with its room."""
        self.rows.write((self.moment, thing.name, word, thing.room))

    def put_in(self, thing):
        """Put a thing into the first room, the stronger for its trace, which is forgotten."""
        thing.strength = min(thing.strength + self.trace_of(thing.name), thing.wane.cap())
        self.traces.pop(thing.name, None)
        self.things[thing.name] = thing
        self.add_row(thing, PUT)
        self.crowd()

    def take_out(self, thing):
        """Take a thing out without a trace."""
        del self.things[thing.name]
        self.add_row(thing, TAKEN)

    def lose(self, thing, word):
        """Let a thing go that isn't taken: it may leave a trace."""
        del self.things[thing.name]
        self.add_row(thing, word)
        number = thing.asked * self.per_asking
        if number > 0:
            self.traces[thing.name] = (number, self.moment)

    def ask_for(self, name):
        """Ask for a name, there or not; its neighbours of the same sort are stirred."""
        thing = self.things.get(name)
        if thing is None:
            return
        thing.strength = behind_asking(thing.wane, thing.strength)
        thing.asked += 1
        if thing.wane.is_anew():
            thing.since = 0
        shift = self.shifts[thing.group]
        if shift != 0:
            self.stir_beside(thing, shift)

    def stir_beside(self, thing, shift):
        """Lift or press the other things of the same sort in the same room."""
        for other in self.by_names():
            if other.name != thing.name and other.group == thing.group and other.room == thing.room:
                other.strength = min(other.strength + shift, other.wane.cap())
                if other.strength < 1:
                    self.lose(other, PRESSED)

    def crowd(self):
        """Let the weakest things move on from each room that is too full, room by room."""
        for room, limit in enumerate(self.limits):
            while self.sum_in(room) > limit:
                self.move_on(weakest(self.in_room(room)))

    def move_on(self, thing):
        """Let a thing move to the next room, or go from the last one."""
        if thing.room + 1 < len(self.limits):
            thing.room += 1
            self.add_row(thing, MOVED)
        else:
            self.lose(thing, CROWDED)

    def turn(self):
        """Let one turn pass."""
        self.moment += 1
        self.wane_all()
        hour = hour_of(self.moment)
        for _, name, hours in self.plans:
            if hour in hours:
                self.ask_for(name)
        if self.mark is not None:
            self.ask_for_weak()
        self.crowd()

    def wane_all(self):
        """Let each thing have its turn, by names."""
        for thing in self.by_names():
            thing.strength = behind_turn(thing.wane, thing.strength, thing.since)
            thing.since += 1
            if thing.strength == 0:
                self.lose(thing, FADED)

    def ask_for_weak(self):
        """Let the mender ask for the weakest thing, where one is weak."""
        weak = [thing for thing in self.things.values() if thing.strength <= self.mark]
        if weak:
            self.ask_for(weakest(weak).name)

    def turns(self, many):
        """Let so many turns pass, one by one."""
        for _ in range(many):
            self.turn()


def weakest(things):
    """Tell the weakest of the things, of several the one whose name is last."""
    return max(things, key=lambda thing: (-thing.strength, thing.name))
