"""Loosely: jobs that share frames by turns without a control."""

from pagerooms.turns import check_turn
from pagerooms.walks import check_room, empty_room


def in_turns(traces, turn):
    """Tell (job, page) for each request of all jobs, in the order of their turns."""
    longest = max([len(trace) for trace in traces], default=0)
    told = []
    # No job is ever put off, so all that are not done have come equally far.
    for start in range(0, longest, turn):
        for job, trace in enumerate(traces):
            for page in trace[start:start + turn]:
                told.append((job, page))
    return told


def loose(traces, frames, *, turn=1):
    """Tell (word, job, page, gone) for each request of jobs that share frames without control."""
    check_room(frames)
    check_turn(turn)
    # All frames are one room by the rule last, in which a page is a job's.
    taker = empty_room([], frames, "last")
    told = []
    for job, page in in_turns(traces, turn):
        asked, word, gone = taker.ask((job, page))
        told.append((word, job, page, gone))
    return told


def loose_faults(traces, frames, *, turn=1):
    """Tell for each job how many faults it has."""
    told = [0] * len(traces)
    for word, job, page, gone in loose(traces, frames, turn=turn):
        if word == "fault":
            told[job] += 1
    return told
