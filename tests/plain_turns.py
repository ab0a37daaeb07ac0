"""What [11] to [15] say, sentence by sentence, looked up in the whole traces."""

import random


def works(trace, window, at):
    """The pages that work behind the request with this number; none behind -1."""
    return {trace[k] for k in range(len(trace)) if at - window < k <= at}


def plain_working(trace, window):
    return [sorted(works(trace, window, at)) for at in range(len(trace))]


def plain_window_walk(trace, window):
    told = []
    for at, page in enumerate(trace):
        ahead, behind = works(trace, window, at - 1), works(trace, window, at)
        told.append((page, "hit" if page in ahead else "fault", tuple(sorted(ahead - behind))))
    return told


class PlainTurns:
    """The plan of [12] to [14], kept as sets of jobs and one set of held (job, page)."""

    def __init__(self, jobs, frames, turn):
        self.jobs, self.frames, self.turn = jobs, frames, turn
        self.count = [0] * len(jobs)
        self.done = {job for job in range(len(jobs)) if not jobs[job][0]}
        self.on = set()
        self.held = set()
        self.let_on_in = {}
        self.offs = []
        self.told = []
        # For each time that a job was put off, how many pages of it were held.
        self.lost = [0] * len(jobs)
        self.most_held = 0

    def working(self, job):
        trace, window = self.jobs[job]
        return works(trace, window, self.count[job] - 1)

    def off_in_order(self):
        off = [job for job in range(len(self.jobs)) if job not in self.on | self.done]
        never = [job for job in off if job not in self.offs]
        latest_off = {job: at for at, job in enumerate(self.offs)}
        return never + sorted([job for job in off if job in self.offs], key=latest_off.get)

    def letting_on(self, number):
        for job in self.off_in_order():
            together = len(self.working(job)) + sum(len(self.working(other)) for other in self.on)
            if self.on and together > self.frames - 1:
                break
            self.on.add(job)
            self.let_on_in[job] = number
            self.told.append(("on", job))

    def run(self):
        number = 0
        self.letting_on(number)
        while len(self.done) < len(self.jobs):
            number += 1
            for job in sorted(self.on):
                for _ in range(self.turn):
                    if job in self.on:
                        self.request(job)
            self.letting_on(number)
        return self

    def request(self, job):
        page = self.jobs[job][0][self.count[job]]
        worked = page in self.working(job)
        self.count[job] += 1
        now = self.working(job)
        self.held = {(other, one) for other, one in self.held if other != job or one in now}
        if (job, page) in self.held:
            self.told.append(("hit", job, page))
        else:
            self.make_room(job)
            self.held.add((job, page))
            self.told.append(("back" if worked else "own", job, page))
        self.most_held = max(self.most_held, len(self.held))
        if self.count[job] == len(self.jobs[job][0]):
            self.done.add(job)
            self.leave(job)
            self.told.append(("done", job))

    def make_room(self, job):
        while len(self.held) == self.frames:
            last = max(self.let_on_in[other] for other in self.on - {job})
            victim = max(other for other in self.on - {job} if self.let_on_in[other] == last)
            self.lost[victim] += len([pair for pair in self.held if pair[0] == victim])
            self.leave(victim)
            self.offs.append(victim)
            self.told.append(("off", victim))

    def leave(self, job):
        self.on.remove(job)
        self.held = {pair for pair in self.held if pair[0] != job}


def plain_story(jobs, frames, turn):
    return PlainTurns(jobs, frames, turn).run().told


def plain_job_faults(jobs, frames, turn):
    told = plain_story(jobs, frames, turn)
    return [tuple(sum(1 for one in told if one[:2] == (word, job)) for word in ("own", "back"))
            for job in range(len(jobs))]


def drawn_trace(draw, length):
    """A trace that stays with a few pages for a while and then goes to others."""
    trace = []
    while len(trace) < length:
        pages = [draw.randrange(9) for _ in range(draw.choice([1, 2, 4, 8]))]
        trace += [draw.choice(pages) for _ in range(draw.randrange(1, 13))]
    return trace[:length]


def drawn_jobs(seed):
    """(jobs, frames, turn), so tight that jobs are often put off."""
    draw = random.Random(seed)
    greatest = draw.randrange(1, 9)
    jobs = []
    for _ in range(draw.choice([1, 2, 3, 4, 5, 6, 6])):
        trace = drawn_trace(draw, draw.choice([0, 1, 20, 60, 60, 60]))
        jobs.append((trace, draw.randrange((greatest + 1) // 2, greatest + 1)))
    frames = max(window for _, window in jobs) + draw.choice([0, 0, 0, 1, 2, 4])
    return jobs, frames, draw.choice([1, 1, 2, 4, 4, 9, 30])
