"""What [16] to [19] say, sentence by sentence, looked up in the whole list of requests."""

import random

from tests.plain_turns import works


def plain_take(shares, free, many):
    """The colours that are taken, each looked for anew among all of them."""
    told = []
    for _ in range(many):
        shared = [share + told.count(colour) for colour, share in enumerate(shares)]
        open_ones = [colour for colour in range(len(free)) if told.count(colour) < free[colour]]
        least = min(shared[colour] for colour in open_ones)
        told.append([colour for colour in open_ones if shared[colour] == least][0])
    return told


def all_takings(free, many):
    """Every taking of so many frames, as a list of how many of each colour."""
    if not free:
        return [[]] if many == 0 else []
    return [[some] + rest for some in range(min(free[0], many) + 1) for rest in all_takings(free[1:], many - some)]


def height(shares, taking):
    """The greatest share, what is taken counted, of the colours of which a taking takes some."""
    return max((share + some for share, some in zip(shares, taking) if some), default=0)


class PlainHouse:
    """The house of [18], kept as a log of requests and a dict of frames."""

    def __init__(self, tasks, frames, colours):
        self.tasks, self.many, self.colours = tasks, frames, colours
        self.log = []
        self.place = {}
        self.soiled = set()
        self.backs = 0
        # For each task how many pages of it were held when it was put off, all times together.
        self.lost = [0] * len(tasks)

    def pages_of(self, task):
        return [one[1] for one in self.log if one[0] == task]

    def leave(self, frame):
        self.backs += self.place[frame] in self.soiled
        self.soiled.discard(self.place.pop(frame))

    def frames_of(self, task):
        return [frame for frame in sorted(self.place) if self.place[frame][0] == task]

    def put_off_one(self, task):
        others = {holder[0] for holder in self.place.values()} - {task}
        gone = min(others, key=lambda other: max(at for at, one in enumerate(self.log) if one[0] == other))
        self.lost[gone] += len(self.frames_of(gone))
        for frame in self.frames_of(gone):
            self.leave(frame)

    def come_in(self, task, page):
        if len(self.place) == self.many:
            self.put_off_one(task)
        free = [frame for frame in range(self.many) if frame not in self.place]
        counts = [sum(frame % self.colours == colour for frame in free) for colour in range(self.colours)]
        colour = plain_take(self.shares(task), counts, 1)[0]
        self.place[[frame for frame in free if frame % self.colours == colour][0]] = (task, page)

    def request(self, task, page, word, worth):
        """Take a request; a worth of None stands for a read."""
        window = self.tasks[task][2]
        ahead = self.pages_of(task)
        worked = page in works(ahead, window, len(ahead) - 1)
        self.log.append((task, page, word, worth))
        now = works(ahead + [page], window, len(ahead))
        for frame in self.frames_of(task):
            if self.place[frame][1] not in now:
                self.leave(frame)
        how = "hit"
        if (task, page) not in self.place.values():
            how = "back" if worked else "own"
            self.come_in(task, page)
        if worth is not None:
            self.soiled.add((task, page))
        frame = [frame for frame in self.place if self.place[frame] == (task, page)][0]
        return self.last_worth(task, page, word), how, frame

    def last_worth(self, task, page, word):
        writes = [one[3] for one in self.log if one[:3] == (task, page, word) and one[3] is not None]
        return writes[-1] if writes else 0

    def shares(self, task):
        return [sum(frame % self.colours == colour for frame in self.frames_of(task)) for colour in range(self.colours)]

    def state(self):
        frames = [self.place.get(frame) for frame in range(self.many)]
        return frames, [self.shares(task) for task in range(len(self.tasks))], self.backs


def state(house, tasks):
    """All that a house tells without a request."""
    return house.frames(), [house.shares(task) for task in range(tasks)], house.written()


def ask(house, task, page, word, worth):
    """Hand one request to a house; a worth of None stands for a read."""
    return house.read(task, page, word) if worth is None else house.write(task, page, word, worth)


def drawn_house(seed):
    """(tasks, frames, colours), so tight that tasks are often put off."""
    draw = random.Random(seed)
    tasks = []
    for _ in range(draw.choice([1, 2, 3, 4, 6])):
        tasks.append((draw.randrange(1, 9), draw.randrange(1, 4), draw.randrange(1, 7)))
    frames = max(window for _, _, window in tasks) + draw.choice([0, 0, 1, 2, 5])
    return tasks, frames, draw.choice([1, 2, 3, 4, 8])


def drawn_requests(seed, tasks, many):
    """Requests (task, page, word, worth) that stay with a task and a few pages for a while."""
    draw = random.Random(seed)
    told = []
    while len(told) < many:
        task = draw.randrange(len(tasks))
        pages, words, _ = tasks[task]
        few = [draw.randrange(pages) for _ in range(draw.choice([1, 2, 4]))]
        for _ in range(draw.choice([1, 1, 2, 5, 9])):
            worth = draw.choice([None, None, 0, draw.randrange(-9, 10), draw.randrange(-10 ** 60, 10 ** 60)])
            told.append((task, draw.choice(few), draw.randrange(words), worth))
    return told[:many]
