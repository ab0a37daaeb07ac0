"""Turns: jobs that share frames, under a control that lets on no more than have room to work."""

from pagerooms.errors import NoRoom, NoTurn, NoWindow
from pagerooms.working import Window


class Job:
    """How far a job has come, which pages of it work, and which are held."""

    def __init__(self, number, trace, window):
        self.number = number
        self.trace = trace
        self.at = 0
        self.window = Window(window)
        self.taken = {}
        # The number of the letting on by which it is on; None where it is off or done.
        self.since = None


class Plan:
    """The jobs, the frames that they share, and what has happened."""

    def __init__(self, jobs, size, turn):
        self.size = size
        self.turn = turn
        self.jobs = [Job(number, trace, window) for number, (trace, window) in enumerate(jobs)]
        # The jobs that are off, in the order in which they are looked at: those never on are
        # here from the beginning, so they stand ahead of all that were put off.
        self.waiting = [job for job in self.jobs if job.trace]
        self.lettings = 0
        self.happenings = []

    def those_on(self):
        """Tell the jobs that are on, by their numbers."""
        return [job for job in self.jobs if job.since is not None]

    def let_on(self):
        """Let jobs on until the first that does not fit."""
        self.lettings += 1
        while self.waiting and self.fits(self.waiting[0]):
            job = self.waiting.pop(0)
            job.since = self.lettings
            self.happenings.append(("on", job.number))

    def fits(self, job):
        """Tell whether a job that is off may be let on."""
        others = self.those_on()
        if not others:
            return True
        many = sum([len(other.window.at_work()) for other in others])
        return many + len(job.window.at_work()) <= self.size - 1

    def take_round(self):
        """Give a turn to each job that is on, then let jobs on."""
        for job in self.those_on():
            self.take_turn(job)
        self.let_on()

    def take_turn(self, job):
        """Take the requests of a turn, none where the job was put off since the round began."""
        left = self.turn
        while left > 0 and job.since is not None:
            self.take_request(job)
            left -= 1

    def take_request(self, job):
        """Take the next request of a job, and end the job behind its last."""
        page = job.trace[job.at]
        job.at += 1
        worked, gone = job.window.ask(page)
        for old in gone:
            # A job that was put off holds none of the pages that went on working.
            job.taken.pop(old, None)
        word = "hit"
        if page not in job.taken:
            word = "back" if worked else "own"
            self.free_frame(job)
            job.taken[page] = True
        self.happenings.append((word, job.number, page))
        if job.at == len(job.trace):
            self.leave(job, "done")

    def free_frame(self, job):
        """Put other jobs off until a frame is free."""
        while sum([len(other.taken) for other in self.jobs]) >= self.size:
            others = [other for other in self.those_on() if other.number != job.number]
            # Those let on at once have the same letting on, whatever their order in it was.
            latest = max(others, key=lambda other: (other.since, other.number))
            self.leave(latest, "off")
            self.waiting.append(latest)

    def leave(self, job, word):
        """Take all frames from a job that is on, which is off or done then."""
        job.since = None
        job.taken = {}
        self.happenings.append((word, job.number))


def check_turn(turn):
    """Refuse a turn below 1."""
    if turn < 1:
        raise NoTurn(turn)


def check_jobs(jobs, frames, turn):
    """Refuse jobs, frames and turns that there are none of."""
    windows = [window for trace, window in jobs]
    for number, window in enumerate(windows):
        if window < 1:
            raise NoWindow(number)
    if frames < max(windows, default=1):
        raise NoRoom(frames)
    check_turn(turn)


def story(jobs, frames, *, turn=1):
    """Tell the happenings of jobs that share frames, in their order."""
    check_jobs(jobs, frames, turn)
    plan = Plan(jobs, frames, turn)
    plan.let_on()
    while plan.those_on():
        plan.take_round()
    return plan.happenings


def job_faults(jobs, frames, *, turn=1):
    """Tell (own, back) for each job: how many faults of each kind it has."""
    happenings = story(jobs, frames, turn=turn)
    told = []
    for number in range(len(jobs)):
        told.append((count_word(happenings, "own", number), count_word(happenings, "back", number)))
    return told


def count_word(happenings, word, number):
    """Tell how many requests of a job have a word."""
    return len([happening for happening in happenings if happening[:2] == (word, number)])
