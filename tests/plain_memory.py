"""What [10] says of a memory, looked up in the whole list of its requests."""

import random

from tests.plain import expected_walk

ONLINE = ("first", "last", "clock")


def drawn_requests(seed, pages, words, many):
    """Requests (page, word, worth); a worth of None stands for a read."""
    draw = random.Random(seed)
    told = []
    for _ in range(many):
        worth = draw.choice([None, 0, draw.randrange(-9, 10), draw.randrange(-10 ** 60, 10 ** 60)])
        told.append((draw.randrange(pages), draw.randrange(words), worth))
    return told


def make_requests(memory, requests):
    """Hand requests to a memory; tell what each told."""
    told = []
    for page, word, worth in requests:
        told.append(memory.read(page, word) if worth is None else memory.write(page, word, worth))
    return told


def plain_answers(requests):
    """What each request tells: of a read the last write of that word ahead of it, or 0."""
    told = []
    for at, (page, word, worth) in enumerate(requests):
        if worth is not None:
            told.append(None)
            continue
        writes = [ahead[2] for ahead in requests[:at] if ahead[:2] == (page, word) and ahead[2] is not None]
        told.append(writes[-1] if writes else 0)
    return told


def was_soiled(requests, walk, page, end):
    """Whether a page was written to from its last fault ahead of a request on, up to that request."""
    came = max(at for at in range(end) if walk[at][:2] == (page, "fault"))
    return any(requests[at][0] == page and requests[at][2] is not None for at in range(came, end))


def plain_state(requests, room, rule):
    """(walk, held, soiled, written) behind the requests."""
    walk = expected_walk([page for page, _, _ in requests], room, rule)
    held, written = set(), 0
    for at, (page, word, gone) in enumerate(walk):
        if gone is not None:
            held.remove(gone)
            written += was_soiled(requests, walk, gone, at)
        held.add(page)
    soiled = [page for page in sorted(held) if was_soiled(requests, walk, page, len(walk))]
    return walk, sorted(held), soiled, written


def state(memory):
    return memory.walk(), memory.held(), memory.soiled(), memory.written()
