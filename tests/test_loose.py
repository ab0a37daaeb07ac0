"""[22], and [2] and [3] as far as they speak of jobs without control."""

import copy
import random
import unittest

from pagerooms.errors import NoRoom, NoTurn, PageError
from pagerooms.fewest import fewest
from pagerooms.loose import loose, loose_faults
from pagerooms.walks import faults, walk
from tests.plain import DIPPING, mixed_trace
from tests.plain_deals import drawn_traces, plain_loose, plain_loose_faults
from tests.plain_turns import drawn_trace

PAIR = [[1, 2, 1, 2], [1, 1]]


def pages_of_all(traces):
    return {(job, page) for job, trace in enumerate(traces) for page in trace}


class TestLoose(unittest.TestCase):
    def test_without_jobs_nothing_is_told(self):
        for frames in (1, 2, 64):
            self.assertEqual(loose([], frames), [])
            self.assertEqual(loose_faults([], frames), [])

    def test_empty_traces(self):
        self.assertEqual(loose([[], []], 1), [])
        self.assertEqual(loose_faults([[], []], 1), [0, 0])
        self.assertEqual(loose([[], [4]], 1), [("fault", 1, 4, None)])
        self.assertEqual(loose_faults([[], [4], []], 1), [0, 1, 0])

    def test_told(self):
        self.assertEqual(loose(PAIR, 2), [
            ("fault", 0, 1, None), ("fault", 1, 1, None), ("fault", 0, 2, (0, 1)), ("hit", 1, 1, None),
            ("fault", 0, 1, (0, 2)), ("fault", 0, 2, (1, 1)),
        ])
        self.assertEqual(loose_faults(PAIR, 2), [4, 1])

    def test_turns_of_two(self):
        self.assertEqual(loose(PAIR, 2, turn=2), [
            ("fault", 0, 1, None), ("fault", 0, 2, None), ("fault", 1, 1, (0, 1)), ("hit", 1, 1, None),
            ("fault", 0, 1, (0, 2)), ("fault", 0, 2, (1, 1)),
        ])
        self.assertEqual(loose_faults(PAIR, 2, turn=2), [4, 1])

    def test_a_turn_ends_with_the_job(self):
        told = loose([[1, 2, 3], [4], [5, 6, 7, 8]], 9, turn=2)
        self.assertEqual([one[2] for one in told], [1, 2, 4, 5, 6, 3, 7, 8])

    def test_a_turn_for_all_requests(self):
        for turn in (4, 5, 300, 10 ** 12):
            told = loose(PAIR, 2, turn=turn)
            self.assertEqual([one[1] for one in told], [0, 0, 0, 0, 1, 1])
            self.assertEqual([one[0] for one in told], ["fault", "fault", "hit", "hit", "fault", "hit"])

    def test_a_number_is_another_page_in_each_job(self):
        self.assertEqual(loose([[7], [7]], 2), [("fault", 0, 7, None), ("fault", 1, 7, None)])
        self.assertEqual(loose([[7], [7]], 1), [("fault", 0, 7, None), ("fault", 1, 7, (0, 7))])

    def test_page_0_of_job_0_goes_as_any_other(self):
        self.assertEqual(loose([[0, 1]], 1)[-1], ("fault", 0, 1, (0, 0)))

    def test_hits_count_as_requests(self):
        self.assertEqual(loose([[1, 1, 1], [2, 3]], 2)[-1], ("hit", 0, 1, None))
        self.assertEqual(loose([[1, 1, 1], [2, 3]], 2)[-2], ("fault", 1, 3, (1, 2)))

    def test_pages_of_a_job_that_is_done_stay_till_they_go(self):
        told = loose([[1], [2, 3, 3, 4]], 3)
        self.assertEqual(told, [
            ("fault", 0, 1, None), ("fault", 1, 2, None), ("fault", 1, 3, None), ("hit", 1, 3, None),
            ("fault", 1, 4, (0, 1)),
        ])

    def test_one_job_is_a_walk_by_last(self):
        for seed in range(20):
            trace = mixed_trace(60, 9, seed)
            for frames in range(1, 11):
                for turn in (1, 3, 60):
                    told = loose([trace], frames, turn=turn)
                    plain = [(page, word, None if gone is None else gone[1]) for word, _, page, gone in told]
                    self.assertEqual(plain, walk(trace, frames))
                    self.assertEqual({gone[0] for _, _, _, gone in told if gone is not None} - {0}, set())

    def test_against_the_words_of_the_document(self):
        for seed in range(250):
            traces = drawn_traces(seed, seed % 7, 30)
            for frames, turn in ((1, 1), (2, 3), (3, 1), (5, 2), (8, 1), (8, 7), (20, 4)):
                told = loose(traces, frames, turn=turn)
                self.assertEqual(told, plain_loose(traces, frames, turn), (seed, frames, turn))
                many = loose_faults(traces, frames, turn=turn)
                self.assertEqual(many, plain_loose_faults(traces, frames, turn), (seed, frames, turn))

    def test_the_turn_left_out_is_one(self):
        for told in (loose, loose_faults):
            self.assertEqual(told(PAIR, 2), told(PAIR, 2, turn=1))
        self.assertNotEqual(loose(PAIR, 2), loose(PAIR, 2, turn=2))


class TestPromises(unittest.TestCase):
    def test_no_fewer_faults_than_alone(self):
        more = 0
        for seed in range(120):
            traces = drawn_traces(seed, 1 + seed % 6, 40)
            for frames in (1, 2, 4, 7, 12):
                for turn in (1, 3, 40):
                    for trace, many in zip(traces, loose_faults(traces, frames, turn=turn)):
                        self.assertGreaterEqual(many, fewest(trace, frames))
                        self.assertGreaterEqual(many, faults(trace, frames))
                        more += many > faults(trace, frames)
        self.assertGreater(more, 0)

    def test_frames_for_all_pages_bring_one_fault_each(self):
        for seed in range(60):
            traces = drawn_traces(seed, 1 + seed % 6, 40)
            pages = pages_of_all(traces)
            for frames in (max(1, len(pages)), len(pages) + 1, len(pages) + 50):
                for turn in (1, 5):
                    told = loose(traces, frames, turn=turn)
                    self.assertEqual({gone for _, _, _, gone in told} - {None}, set())
                    came = [(job, page) for word, job, page, _ in told if word == "fault"]
                    self.assertEqual(sorted(came), sorted(pages))

    def test_each_job_has_all_its_requests_in_their_order(self):
        for seed in range(60):
            traces = drawn_traces(seed, 4, 30)
            told = loose(traces, 3, turn=1 + seed % 5)
            for job, trace in enumerate(traces):
                self.assertEqual([one[2] for one in told if one[1] == job], trace)

    def test_never_more_pages_than_frames(self):
        for seed in range(60):
            traces = drawn_traces(seed, 4, 30)
            held = set()
            for word, job, page, gone in loose(traces, 5, turn=1 + seed % 5):
                self.assertEqual(word == "hit", (job, page) in held)
                self.assertEqual(gone is not None, word == "fault" and len(held) == 5)
                held = held - {gone} | {(job, page)}


class TestRefusals(unittest.TestCase):
    def refused(self, kind, what, traces, frames, turn):
        given = copy.deepcopy(traces)
        for told in (loose, loose_faults):
            with self.assertRaises(PageError) as seen:
                told(traces, frames, turn=turn)
            self.assertEqual((seen.exception.__class__, seen.exception.what), (kind, what))
        self.assertEqual(traces, given)

    def test_no_room(self):
        for frames in (0, -1, -64, -10 ** 5000):
            for traces in ([], [[]], [[1, 2], [1]]):
                self.refused(NoRoom, frames, traces, frames, 1)

    def test_no_turn(self):
        for turn in (0, -1, -300, -10 ** 5000):
            for traces in ([], [[]], [[1, 2], [1]]):
                self.refused(NoTurn, turn, traces, 1, turn)

    def test_order(self):
        self.refused(NoRoom, 0, [[1]], 0, 0)
        self.refused(NoRoom, -1, [], -1, -2)

    def test_with_the_turn_left_out(self):
        for told in (loose, loose_faults):
            with self.assertRaises(NoRoom) as seen:
                told([[1]], 0)
            self.assertEqual(seen.exception.what, 0)

    def test_fewer_frames_than_jobs(self):
        self.assertEqual(loose_faults([[1, 1]] * 6, 1), [2] * 6)


class TestAsking(unittest.TestCase):
    def test_by_place_and_by_name(self):
        for told in (loose, loose_faults):
            wanted = told(PAIR, 2, turn=2)
            self.assertEqual(told(turn=2, frames=2, traces=PAIR), wanted)
            self.assertEqual(told(PAIR, frames=2, turn=2), wanted)

    def test_the_turn_by_its_name_alone(self):
        for told in (loose, loose_faults):
            with self.assertRaises(TypeError):
                told(PAIR, 2, 1)

    def test_kinds(self):
        told = loose(PAIR, 2)
        self.assertIs(told.__class__, list)
        self.assertEqual({one.__class__ for one in told}, {tuple})
        self.assertEqual({gone.__class__ for _, _, _, gone in told}, {tuple, None.__class__})
        many = loose_faults(PAIR, 2)
        self.assertIs(many.__class__, list)
        self.assertEqual({one.__class__ for one in many}, {int})

    def test_what_is_handed_in_stays(self):
        traces = copy.deepcopy(PAIR)
        loose(traces, 2)
        loose_faults(traces, 2)
        self.assertEqual(traces, PAIR)

    def test_told_lists_are_the_askers_own(self):
        for traces in (PAIR, []):
            for told in (loose, loose_faults):
                kept = told(traces, 2)
                told(traces, 2).append("else")
                told(traces, 2).clear()
                self.assertEqual(told(traces, 2), kept)

    def test_changed_traces_change_nothing_told(self):
        traces = copy.deepcopy(PAIR)
        told = loose(traces, 2), loose_faults(traces, 2)
        for trace in traces:
            trace.clear()
        traces.clear()
        self.assertEqual(told, (loose(PAIR, 2), loose_faults(PAIR, 2)))

    def test_one_trace_for_several_jobs(self):
        trace = list(DIPPING)
        self.assertEqual(loose([trace, trace], 3), plain_loose([DIPPING, DIPPING], 3, 1))
        self.assertEqual(trace, DIPPING)


class TestGreatest(unittest.TestCase):
    def greatest(self):
        draw = random.Random(8)
        return [
            [list(range(job, job + 200)) for job in range(6)],
            [[page % 11 for page in range(200)] for _ in range(6)],
            [[10 ** 9 - page for page in drawn_trace(draw, 200)] for _ in range(6)],
            [[0] * 200 for _ in range(6)],
        ]

    def test_six_jobs_sixty_four_frames(self):
        for traces in self.greatest():
            for frames, turn in ((1, 1), (64, 1), (64, 7), (63, 199), (64, 200), (64, 300)):
                self.assertEqual(loose(traces, frames, turn=turn), plain_loose(traces, frames, turn))
                told = loose_faults(traces, frames, turn=turn)
                self.assertEqual(told, plain_loose_faults(traces, frames, turn))

    def test_somewhat_beyond(self):
        traces = [mixed_trace(260, 50, job) for job in range(8)]
        for frames, turn in ((70, 400), (300, 1), (10 ** 60, 10 ** 12)):
            told = loose(traces, frames, turn=turn)
            self.assertEqual(len(told), 8 * 260)
        self.assertEqual(loose_faults(traces, 10 ** 60), [len(set(trace)) for trace in traces])


if __name__ == "__main__":
    unittest.main()
