"""What [20] to [22] say, with every deal and every price tried."""

import functools
import itertools
import random

from tests.plain_turns import drawn_trace


@functools.lru_cache(maxsize=None)
def faults_in_a_line(trace, room):
    """The faults by the rule last, the held pages in a line with the one asked for longest ago ahead."""
    line, many = [], 0
    for page in trace:
        if page in line:
            line.remove(page)
        else:
            many += 1
            if len(line) == room:
                line.pop(0)
        line.append(page)
    return many


def plain_faults(trace, room):
    return faults_in_a_line(tuple(trace), room)


def plain_deal_faults(traces, rooms):
    return sum(plain_faults(trace, room) for trace, room in zip(traces, rooms, strict=True))


def all_deals(many, frames):
    """Every deal of frames to so many traces, in the order of lists."""
    rooms = range(1, frames - many + 2)
    return [list(deal) for deal in itertools.product(rooms, repeat=many) if sum(deal) <= frames]


def best_of_all_deals(traces, frames):
    """(faults, rooms) of the best deal, all of them tried."""
    cost = [[None] + [plain_faults(trace, room) for room in range(1, frames + 1)] for trace in traces]
    return min((sum(one[room] for one, room in zip(cost, deal)), deal) for deal in all_deals(len(traces), frames))


def best_deal_from_the_front(traces, frames):
    """(faults, rooms) of the best deal, by the best one of the first traces for each sum of rooms."""
    best = {0: (0, [])}
    for trace in traces:
        cost = [plain_faults(trace, room) for room in range(1, max(1, len(set(trace))) + 1)]
        after = {}
        for used, (many, rooms) in best.items():
            for room in range(1, min(len(cost), frames - used) + 1):
                way = (many + cost[room - 1], rooms + [room])
                after[used + room] = min(way, after.get(used + room, way))
        best = after
    return min(best.values())


def plain_price_bound(traces, frames, price):
    rooms = range(1, frames + 1)
    return sum(min(plain_faults(trace, room) + price * room for room in rooms) for trace in traces) - price * frames


def plain_price(traces, frames):
    """(price, bound) with the greatest bound, each price tried from which on a second frame saves nothing."""
    cost = [[plain_faults(trace, room) for room in range(1, frames + 1)] for trace in traces]
    highest = max(len(trace) for trace in traces) + 2
    bounds = []
    for price in range(highest):
        least = [min(many + price * room for room, many in enumerate(one, 1)) for one in cost]
        bounds.append(sum(least) - price * frames)
    return bounds.index(max(bounds)), max(bounds)


def plain_loose(traces, frames, turn):
    """The list of [22], gone through by rounds; the page that goes is looked up in all that was asked for."""
    at, asked, held, told = [0] * len(traces), [], [], []
    while any(at[job] < len(traces[job]) for job in range(len(traces))):
        for job, trace in enumerate(traces):
            for _ in range(turn):
                if at[job] == len(trace):
                    break
                page, gone, word = trace[at[job]], None, "hit"
                if (job, page) not in held:
                    word = "fault"
                    if len(held) == frames:
                        gone = min(held, key=lambda one: len(asked) - asked[::-1].index(one))
                        held.remove(gone)
                    held.append((job, page))
                asked.append((job, page))
                told.append((word, job, page, gone))
                at[job] += 1
    return told


def plain_loose_faults(traces, frames, turn):
    told = plain_loose(traces, frames, turn)
    return [sum(one[:2] == ("fault", job) for one in told) for job in range(len(traces))]


def drawn_traces(seed, many, length):
    """So many traces, some of them empty or short."""
    draw = random.Random(seed)
    return [drawn_trace(draw, draw.choice([0, 1, length // 2, length, length])) for _ in range(many)]
