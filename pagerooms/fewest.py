"""The fewest faults of a trace in a room, and papers that show how few they can be."""

from pagerooms.walks import check_room, faults, last_requests


def fewest(trace, room):
    """Tell the least number of faults that any choice of pages that go could have."""
    return faults(trace, room, rule="far")


def bound(trace, room, paper):
    """Tell how many faults a paper shows that every rule has at least."""
    check_room(room)
    places = sorted({place for place in paper if 0 <= place < len(trace)})
    missed = 0
    for at, before in enumerate(last_requests(trace)):
        if before is not None and not any(before < place < at for place in places):
            missed += 1
    return len(trace) - (room - 1) * len(places) - missed


def paper(trace, room):
    """Tell the shortest paper whose bound is the fewest, of several the least."""
    check_room(room)
    ahead = best_next_places(trace, room)
    told = []
    place = ahead[-1]
    while place < len(trace):
        told.append(place)
        place = ahead[place]
    return told


def best_next_places(trace, room):
    """Tell for each place the next one of the best paper that has it; -1 stands ahead of all.

    A gap without a place within lies between two neighbours of a paper, both
    counted, or ahead of its first or behind its last place. So what a paper
    loses is a sum over neighbours, and the best paper is found from behind.
    The length of the trace stands for the end of a paper.
    """
    end = len(trace)
    befores = last_requests(trace)
    # What a paper loses from a place on, and how many places it has from there.
    rest = {end: (0, 0)}
    ahead = {}
    for start in range(end - 1, -2, -1):
        lost, many, place = best_way(befores, start, rest)
        rest[start] = (lost + room - 1, many + 1)
        ahead[start] = place
    return ahead


def best_way(befores, start, rest):
    """Tell (lost, many, next place) of the best way from a place to the end of a paper."""
    end = len(befores)
    missed = 0
    ways = []
    for place in range(start + 1, end + 1):
        if place < end and befores[place] is not None and befores[place] >= start:
            missed += 1
        lost, many = rest[place]
        ways.append((lost + missed, many, place))
    # The tuples' order is the paper's: least lost, then shortest, then least.
    return min(ways)
