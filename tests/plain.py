"""What the document says, word by word and without haste, to hold the program against."""

import itertools

RULES = ("first", "last", "clock", "far")

DIPPING = [1, 2, 3, 4, 1, 2, 5, 1, 2, 3, 4, 5]


def all_traces(length, pages):
    """Every trace of a length over the pages from 0."""
    return [list(trace) for trace in itertools.product(range(pages), repeat=length)]


def unlike_traces(length):
    """Every trace of a length in which new pages come as 0, 1, 2 and so on."""
    traces = [[]]
    for _ in range(length):
        traces = [trace + [page] for trace in traces for page in range(len(set(trace)) + 1)]
    return traces


def mixed_trace(length, pages, seed):
    """A trace that looks mixed, the same at each call."""
    state = seed * 7919 + 17
    trace = []
    for _ in range(length):
        state = (state * 1103515245 + 12345) % 2 ** 31
        trace.append((state >> 12) % pages)
    return trace


def victim(trace, at, held, came, rule):
    """The page that goes by first, last or far at the request with this number."""
    ahead = trace[:at]
    if rule == "first":
        return min(held, key=lambda page: came[page])
    if rule == "last":
        return min(held, key=lambda page: max(k for k in range(at) if ahead[k] == page))
    never = sorted(page for page in held if page not in trace[at:])
    if never:
        return never[0]
    return max(held, key=lambda page: trace.index(page, at))


def plain_walk(trace, room, rule):
    """The walk by first, last or far, each choice looked up in the whole trace."""
    held, came, told = set(), {}, []
    for at, page in enumerate(trace):
        if page in held:
            told.append((page, "hit", None))
            continue
        gone = None
        if len(held) == room:
            gone = victim(trace, at, held, came, rule)
            held.remove(gone)
        held.add(page)
        came[page] = at
        told.append((page, "fault", gone))
    return told


def plain_clock(trace, room):
    """The walk by clock, in a ring of frames that are all there from the beginning."""
    frames, hand, told = [[None, False] for _ in range(room)], 0, []
    for page in trace:
        pages = [frame[0] for frame in frames]
        if page in pages:
            frames[pages.index(page)][1] = True
            told.append((page, "hit", None))
            continue
        if None in pages:
            frames[pages.index(None)] = [page, True]
            told.append((page, "fault", None))
            continue
        while frames[hand][1]:
            frames[hand][1] = False
            hand = (hand + 1) % room
        told.append((page, "fault", frames[hand][0]))
        frames[hand] = [page, True]
        hand = (hand + 1) % room
    return told


def expected_walk(trace, room, rule):
    return plain_clock(trace, room) if rule == "clock" else plain_walk(trace, room, rule)


def count_faults(told):
    return sum(1 for _, word, _ in told if word == "fault")


def fewest_of_all_choices(trace, room):
    """The least faults over all choices of pages that go, each of them tried."""
    states = {frozenset(): 0}
    for page in trace:
        after = {}
        for held, many in states.items():
            if page in held:
                moves = [(held, many)]
            elif len(held) < room:
                moves = [(held | {page}, many + 1)]
            else:
                moves = [(held - {gone} | {page}, many + 1) for gone in held]
            for now, cost in moves:
                after[now] = min(cost, after.get(now, cost))
        states = after
    return min(states.values())


def gaps(trace):
    """The pairs of requests of a page with no one of it between."""
    pairs = itertools.combinations(range(len(trace)), 2)
    return [(a, b) for a, b in pairs if trace[a] == trace[b] and trace[a] not in trace[a + 1:b]]


def plain_bound(trace, room, places):
    kept = set(places) & set(range(len(trace)))
    empty = [gap for gap in gaps(trace) if not kept & set(range(gap[0] + 1, gap[1]))]
    return len(trace) - (room - 1) * len(kept) - len(empty)


def best_paper_of_all(trace, room, wanted):
    """The first paper with the wanted bound, the shortest tried first and in the order of lists."""
    for many in range(len(trace) + 1):
        for places in itertools.combinations(range(len(trace)), many):
            if plain_bound(trace, room, places) == wanted:
                return list(places)
    return None
