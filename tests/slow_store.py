"""A store written turn by turn from the words of the document, to hold the program against."""


def slow_step(wane, since):
    """The step behind a since, counted out."""
    head, tail = wane.head(), wane.tail()
    if since < len(head):
        return head[since]
    return tail[(since - len(head)) % len(tail)]


def slow_phase(wane, since):
    """The phase of a since."""
    both = len(wane.head()) + len(wane.tail())
    if since < both:
        return since
    return since - (since - both) // len(wane.tail()) * len(wane.tail()) - len(wane.tail())


class SlowStore:
    """Things are lists: room, sort, strength, since, asked, wane. Nothing is refused, nothing is leapt."""

    def __init__(self, rooms, stirs=None, grain=0, fade=1):
        self.room_sizes = rooms
        self.stir_list = stirs or [0] * 10
        self.grain_told = grain
        self.fade_told = fade
        self.moment = 0
        self.things = {}
        self.left = {}
        self.plans = {}
        self.hires = 0
        self.mark = None
        self.rows = []

    def row(self, name, word, room):
        self.rows.append((self.moment, name, word, room))

    def put(self, name, sort, wane, strength):
        strength = min(strength + self.trace(name), wane.cap())
        self.left.pop(name, None)
        self.things[name] = [0, sort, strength, 0, 0, wane]
        self.row(name, "put", 0)
        self.crowd()

    def go(self, name, word):
        room, _, _, _, asked, _ = self.things.pop(name)
        self.row(name, word, room)
        if word != "taken" and asked * self.grain_told > 0:
            self.left[name] = (asked * self.grain_told, self.moment)

    def take(self, name):
        self.go(name, "taken")

    def ask(self, name):
        self.asking(name)
        self.crowd()

    def asking(self, name):
        if name not in self.things:
            return
        thing = self.things[name]
        wane = thing[5]
        thing[2] = min(thing[2] + wane.lift(), wane.cap())
        if wane.is_anew():
            thing[3] = 0
        thing[4] += 1
        stir = self.stir_list[thing[1]]
        if stir == 0:
            return
        for other in sorted(self.things):
            beside = self.things[other]
            if other != name and beside[:2] == thing[:2]:
                beside[2] = min(beside[2] + stir, beside[5].cap())
                if beside[2] < 1:
                    self.go(other, "pressed")

    def crowd(self):
        for room in range(len(self.room_sizes)):
            while self.total(room) > self.room_sizes[room]:
                least = min(thing[2] for thing in self.things.values() if thing[0] == room)
                name = max(name for name, thing in self.things.items() if thing[0] == room and thing[2] == least)
                if room == len(self.room_sizes) - 1:
                    self.go(name, "crowded")
                else:
                    self.things[name][0] += 1
                    self.row(name, "moved", room + 1)

    def turn(self):
        self.moment += 1
        for name in sorted(self.things):
            thing = self.things[name]
            by, take = slow_step(thing[5], thing[3])
            thing[2] = thing[2] // by - take
            thing[3] += 1
            if thing[2] < 1:
                self.go(name, "faded")
        for number in sorted(self.plans):
            name, hours = self.plans[number]
            if self.moment % 24 in hours:
                self.asking(name)
        if self.mark is not None:
            weak = sorted((thing[2], [-ord(sign) for sign in name], name) for name, thing in self.things.items())
            weak = [name for strength, _, name in weak if strength <= self.mark]
            # Of several as weak the last name; a longer name that begins with a shorter one is behind it.
            if weak:
                least = self.things[weak[0]][2]
                self.asking(max(name for name in weak if self.things[name][2] == least))
        self.crowd()

    def pass_on(self, turns):
        for _ in range(turns):
            self.turn()

    def hire(self, name, hours):
        self.hires += 1
        self.plans[self.hires] = (name, hours)
        return self.hires

    def dismiss(self, number):
        del self.plans[number]

    def mend(self, mark):
        self.mark = mark

    def total(self, room):
        return sum(thing[2] for thing in self.things.values() if thing[0] == room)

    def trace(self, name):
        if name in self.things or name not in self.left:
            return 0
        number, moment = self.left[name]
        return max(0, number - self.fade_told * (self.moment - moment))

    def state(self):
        return tuple(
            (name, thing[0], thing[2], slow_phase(thing[5], thing[3])) for name, thing in sorted(self.things.items())
        )

    def all_told(self, names):
        """What told_by tells of a store."""
        return {
            "now": self.moment,
            "there": sorted(self.things),
            "things": [tuple(self.things[name][:5]) for name in sorted(self.things)],
            "wanes": [self.things[name][5].text() for name in sorted(self.things)],
            "totals": [self.total(room) for room in range(len(self.room_sizes))],
            "traces": [self.trace(name) for name in names],
            "askers": [(number, *self.plans[number]) for number in sorted(self.plans)],
            "mender": self.mark,
            "state": self.state(),
            "story": self.rows,
            "made": (self.room_sizes, self.stir_list, self.grain_told, self.fade_told),
        }


def told_by(store, names):
    """All that a store tells."""
    return {
        "now": store.now(),
        "there": store.there(),
        "things": [store.thing(name) for name in store.there()],
        "wanes": [store.wane_of(name).text() for name in store.there()],
        "totals": [store.total(room) for room in range(len(store.rooms()))],
        "traces": [store.trace(name) for name in names],
        "askers": store.askers(),
        "mender": store.mender(),
        "state": store.state(),
        "story": store.story(),
        "made": (store.rooms(), store.stirs(), store.grain(), store.fade()),
    }
