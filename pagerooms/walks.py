"""Walks: what each rule does, request by request, and what follows from it."""

from pagerooms.errors import NoRoom, NoRule

RULES = ("first", "last", "clock", "far")


class Line:
    """The rules first and last: the held pages stand in a line, and its head goes."""

    def __init__(self, room, renews):
        self.room = room
        self.renews = renews
        # A dict keeps the order in which its keys came: it is the line.
        self.line = {}

    def ask(self, page):
        """Take a request; tell (page, word, gone)."""
        if page in self.line:
            if self.renews:
                del self.line[page]
                self.line[page] = True
            return (page, "hit", None)
        gone = None
        if len(self.line) == self.room:
            gone = list(self.line)[0]
            del self.line[gone]
        self.line[page] = True
        return (page, "fault", gone)


class Ring:
    """The rule clock: frames in a ring, each with a mark, and a hand."""

    def __init__(self, room):
        self.room = room
        # Only filled frames stand here, so a great room costs nothing.
        self.ring = []
        self.marks = []
        self.seats = {}
        self.hand = 0

    def ask(self, page):
        """Take a request; tell (page, word, gone)."""
        if page in self.seats:
            self.marks[self.seats[page]] = True
            return (page, "hit", None)
        gone = None
        if len(self.ring) < self.room:
            seat = len(self.ring)
            self.ring.append(page)
            self.marks.append(True)
        else:
            seat = self.sweep()
            gone = self.ring[seat]
            del self.seats[gone]
            self.ring[seat] = page
            self.marks[seat] = True
        self.seats[page] = seat
        return (page, "fault", gone)

    def sweep(self):
        """Move the hand to the first frame without a mark and one beyond it; tell that frame."""
        while self.marks[self.hand]:
            self.marks[self.hand] = False
            self.hand = (self.hand + 1) % self.room
        seat = self.hand
        self.hand = (seat + 1) % self.room
        return seat


class Ahead:
    """The rule far, for one trace that is known ahead and asked for in its order."""

    def __init__(self, room, trace):
        self.room = room
        self.nexts = next_requests(trace)
        self.at = 0
        self.due = {}

    def ask(self, page):
        """Take the next request of the trace; tell (page, word, gone)."""
        word = "hit"
        gone = None
        if page not in self.due:
            word = "fault"
            if len(self.due) == self.room:
                gone = self.farthest()
                del self.due[gone]
        self.due[page] = self.nexts[self.at]
        self.at += 1
        return (page, word, gone)

    def farthest(self):
        """Tell the held page that is asked for last, of several such the least."""
        due = self.due
        return min(due, key=lambda page: (-due[page], page))


def last_requests(trace):
    """Tell for each request the number of the one of its page ahead of it, or None."""
    latest = {}
    told = []
    for at, page in enumerate(trace):
        told.append(latest.get(page))
        latest[page] = at
    return told


def next_requests(trace):
    """Tell for each request the number of the next one of its page."""
    # Where there is none the length stands, which is farther than any request.
    told = [len(trace)] * len(trace)
    for at, before in enumerate(last_requests(trace)):
        if before is not None:
            told[before] = at
    return told


def check_room(room):
    """Refuse a room below 1."""
    if room < 1:
        raise NoRoom(room)


def empty_room(trace, room, rule):
    """Make the empty frames of a rule."""
    if rule == "first":
        return Line(room, False)
    if rule == "last":
        return Line(room, True)
    if rule == "clock":
        return Ring(room)
    return Ahead(room, trace)


def walk(trace, room, *, rule="last"):
    """Tell (page, word, gone) for each request."""
    if rule not in RULES:
        raise NoRule(rule)
    check_room(room)
    taker = empty_room(trace, room, rule)
    told = []
    for page in trace:
        told.append(taker.ask(page))
    return told


def faults(trace, room, *, rule="last"):
    """Tell how many faults a walk has."""
    return len([word for page, word, gone in walk(trace, room, rule=rule) if word == "fault"])


def depths(trace):
    """Tell for each request how many unlike pages came since its page was asked for, or None."""
    told = []
    for at, before in enumerate(last_requests(trace)):
        if before is None:
            told.append(None)
        else:
            told.append(len(set(trace[before + 1:at + 1])))
    return told


def curve(trace):
    """Tell the faults by the rule last in each room from 1 to the number of unlike pages."""
    # By this rule a request is a hit just where its depth is within the room.
    deep = depths(trace)
    rooms = max(1, len(set(trace)))
    return [len([depth for depth in deep if depth is None or depth > room]) for room in range(1, rooms + 1)]


def dip(trace):
    """Tell the least room in which the rule first has fewer faults than in one room more, or None."""
    fewer = faults(trace, 1, rule="first")
    for room in range(1, len(set(trace))):
        more = faults(trace, room + 1, rule="first")
        if more > fewer:
            return room
        fewer = more
    return None
