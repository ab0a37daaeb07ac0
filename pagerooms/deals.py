"""Deals: frames dealt to traces so that the faults are fewest, and prices that show how few they can be."""

from pagerooms.errors import NoRoom, NoTask
from pagerooms.walks import curve, faults


def check_traces(traces):
    """Refuse to deal to no traces."""
    if not traces:
        raise NoTask(None)


def check_deal(traces, frames):
    """Refuse to deal to no traces, then fewer frames than traces."""
    check_traces(traces)
    if frames < len(traces):
        raise NoRoom(frames)


def deal(traces, frames):
    """Tell the rooms, trace by trace, with the fewest faults, of several such deals the least."""
    check_deal(traces, frames)
    curves = [curve(trace) for trace in traces]
    # Behind the end of its curve no trace has fewer faults, so no more frames than this are of use.
    left = min(frames, sum([len(falls) for falls in curves]))
    tables = best_rooms(curves, left)
    rooms = []
    for best in tables:
        room = best[left][1]
        rooms.append(room)
        left -= room
    return rooms


def best_rooms(curves, frames):
    """Tell for each trace a dict: for so many frames left, (fewest faults from it on, its least room for them)."""
    told = []
    rest = {left: (0, 0) for left in range(frames + 1)}
    for falls in reversed(curves):
        best = {}
        for left in range(frames + 1):
            # The tuples' order is the deal's: fewest faults, then the least room.
            ways = [
                (many + rest[left - room][0], room)
                for room, many in enumerate(falls, start=1) if left - room in rest
            ]
            # Where there is none the frames left are too few for the traces left.
            if ways:
                best[left] = min(ways)
        told.append(best)
        rest = best
    return told[::-1]


def deal_faults(traces, rooms):
    """Tell the faults by the rule last of all traces, each in its room."""
    check_traces(traces)
    return sum([faults(trace, room) for trace, room in zip(traces, rooms)])


def bound_of(curves, frames, cost):
    """Tell the bound of a price, the cost of a frame, for traces with these curves."""
    total = -cost * frames
    for falls in curves:
        # A room behind the end of the curve has no fewer faults, and costs no less.
        total += min([many + cost * room for room, many in enumerate(falls[:frames], start=1)])
    return total


def price_bound(traces, frames, price):
    """Tell how many faults a price shows that every deal has at least."""
    check_deal(traces, frames)
    if price < 0:
        raise NoRoom(price)
    return bound_of([curve(trace) for trace in traces], frames, price)


def price(traces, frames):
    """Tell (price, bound) of the price with the greatest bound, of several the least."""
    check_deal(traces, frames)
    curves = [curve(trace) for trace in traces]
    best = 0
    bound = bound_of(curves, frames, best)
    after = bound_of(curves, frames, best + 1)
    # From price to price the bound gains no more than it did ahead: where it first
    # does not rise it never will again.
    while after > bound:
        best += 1
        bound = after
        after = bound_of(curves, frames, best + 1)
    return (best, bound)
