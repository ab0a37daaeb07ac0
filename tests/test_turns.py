"""[12] to [15], and [2], [3] and [4] as far as they speak of turns."""

import copy
import random
import unittest

from pagerooms.errors import NoRoom, NoTurn, NoWindow, PageError
from pagerooms.turns import job_faults, story
from pagerooms.working import window_walk
from tests.plain import count_faults
from tests.plain_turns import PlainTurns, drawn_jobs, drawn_trace, plain_job_faults, plain_story

# Job 0 comes to need both frames, and job 1 is put off for it.
CROWDED = [([1, 2, 1, 2], 2), ([1, 1], 2)]


def happened(told, word):
    return [one for one in told if one[0] == word]


class TestAlone(unittest.TestCase):
    def test_no_jobs(self):
        self.assertEqual(story([], 1), [])
        self.assertEqual(job_faults([], 1), [])

    def test_a_job_without_requests_is_not_told(self):
        self.assertEqual(story([([], 3)], 3), [])
        self.assertEqual(job_faults([([], 3)], 3), [(0, 0)])

    def test_one_job(self):
        told = [("on", 0), ("own", 0, 1), ("own", 0, 2), ("hit", 0, 1), ("done", 0)]
        for turn in (1, 2, 3, 300):
            self.assertEqual(story([([1, 2, 1], 2)], 2, turn=turn), told)
            self.assertEqual(job_faults([([1, 2, 1], 2)], 2, turn=turn), [(2, 0)])

    def test_a_page_that_works_no_more_leaves_its_frame(self):
        told = [("on", 0), ("own", 0, 1), ("hit", 0, 1), ("own", 0, 2), ("own", 0, 1), ("done", 0)]
        for frames in (1, 2, 64):
            self.assertEqual(story([([1, 1, 2, 1], 1)], frames), told)
            self.assertEqual(job_faults([([1, 1, 2, 1], 1)], frames), [(3, 0)])


class TestTurns(unittest.TestCase):
    def test_turns_of_one(self):
        told = [
            ("on", 0), ("on", 1), ("own", 0, 5), ("own", 1, 5), ("hit", 0, 5), ("done", 0),
            ("own", 1, 6), ("hit", 1, 5), ("done", 1),
        ]
        self.assertEqual(story([([5, 5], 1), ([5, 6, 5], 2)], 4), told)

    def test_turns_of_two(self):
        told = [
            ("on", 0), ("on", 1), ("own", 0, 5), ("hit", 0, 5), ("done", 0),
            ("own", 1, 5), ("own", 1, 6), ("hit", 1, 5), ("done", 1),
        ]
        self.assertEqual(story([([5, 5], 1), ([5, 6, 5], 2)], 4, turn=2), told)

    def test_the_turn_left_out_is_one(self):
        jobs = [([5, 5], 1), ([5, 6, 5], 2)]
        self.assertEqual(story(jobs, 4), story(jobs, 4, turn=1))
        self.assertNotEqual(story(jobs, 4), story(jobs, 4, turn=2))
        self.assertEqual(job_faults(CROWDED, 2), job_faults(CROWDED, 2, turn=1))
        self.assertNotEqual(job_faults(CROWDED, 2), job_faults(CROWDED, 2, turn=9))

    def test_numbers_of_jobs_count_those_without_requests(self):
        told = [("on", 1), ("on", 3), ("own", 1, 7), ("done", 1), ("own", 3, 7), ("done", 3)]
        jobs = [([], 1), ([7], 1), ([], 2), ([7], 1)]
        self.assertEqual(story(jobs, 2), told)
        self.assertEqual(job_faults(jobs, 2), [(0, 0), (1, 0), (0, 0), (1, 0)])

    def test_a_number_stands_for_another_page_in_each_job(self):
        told = story([([1], 1), ([1], 1)], 2)
        self.assertEqual(happened(told, "own"), [("own", 0, 1), ("own", 1, 1)])

    def test_a_done_job_leaves_its_frames(self):
        # Job 0 leaves both frames behind its last request; else job 1 could not hold two pages.
        told = story([([1, 2], 2), ([1, 2, 1], 2)], 2, turn=3)
        self.assertEqual(told, [
            ("on", 0), ("on", 1), ("own", 0, 1), ("own", 0, 2), ("done", 0),
            ("own", 1, 1), ("own", 1, 2), ("hit", 1, 1), ("done", 1),
        ])


class TestPuttingOff(unittest.TestCase):
    def test_a_job_is_put_off_and_comes_back(self):
        told = [
            ("on", 0), ("on", 1), ("own", 0, 1), ("own", 1, 1),
            ("off", 1), ("own", 0, 2), ("hit", 0, 1), ("hit", 0, 2), ("done", 0),
            ("on", 1), ("back", 1, 1), ("done", 1),
        ]
        self.assertEqual(story(CROWDED, 2), told)
        self.assertEqual(job_faults(CROWDED, 2), [(2, 0), (1, 1)])

    def test_a_page_that_did_not_work_is_own_behind_being_put_off(self):
        jobs = [([1, 2, 1, 2], 2), ([1, 2], 2)]
        self.assertEqual(story(jobs, 2)[-3:], [("on", 1), ("own", 1, 2), ("done", 1)])
        self.assertEqual(job_faults(jobs, 2), [(2, 0), (2, 0)])

    def test_of_those_let_on_at_once_the_greatest_goes_first_though_it_holds_none(self):
        told = [
            ("on", 0), ("on", 1), ("on", 2), ("own", 0, 5), ("hit", 0, 5),
            ("off", 2), ("off", 0), ("own", 1, 5), ("hit", 1, 5), ("done", 1),
            ("on", 2), ("own", 2, 5), ("hit", 2, 5), ("done", 2),
            ("on", 0), ("back", 0, 5), ("done", 0),
        ]
        jobs = [([5, 5, 5], 1), ([5, 5], 1), ([5, 5], 1)]
        self.assertEqual(story(jobs, 1, turn=2), told)
        self.assertEqual(job_faults(jobs, 1, turn=2), [(1, 1), (1, 0), (1, 0)])

    def test_let_on_at_once_in_another_order_than_their_numbers(self):
        # Job 2 was put off ahead of job 1, so it is let on ahead of it; let on at once,
        # it is put off ahead of it again.
        jobs = [([1] * 4 + [2, 3, 4, 4] + [4] * 8 + [1, 2, 3, 3], 4), ([7] * 12, 1), ([8] * 12, 1)]
        told = story(jobs, 4, turn=4)
        control = [one for one in told if len(one) == 2]
        self.assertEqual(control, [
            ("on", 0), ("on", 1), ("on", 2), ("off", 2), ("off", 1), ("on", 2), ("on", 1),
            ("off", 2), ("off", 1), ("done", 0), ("on", 2), ("on", 1), ("done", 1), ("done", 2),
        ])
        self.assertEqual(job_faults(jobs, 4, turn=4), [(7, 0), (1, 2), (1, 2)])

    def test_the_job_let_on_last_goes_first_whatever_its_number(self):
        # Job 0 comes back a round later than job 2, so it is the one that goes then.
        jobs = [([7] * 8, 1), ([1, 2, 3, 4, 4, 4, 4, 4, 1, 2], 4), ([8] * 7, 1)]
        self.assertEqual(story(jobs, 4), [
            ("on", 0), ("on", 1), ("on", 2),
            ("own", 0, 7), ("own", 1, 1), ("own", 2, 8),
            ("hit", 0, 7), ("own", 1, 2), ("hit", 2, 8),
            ("hit", 0, 7), ("off", 2), ("own", 1, 3),
            ("hit", 0, 7), ("off", 0), ("own", 1, 4),
            ("hit", 1, 4),
            ("hit", 1, 4), ("on", 2),
            ("hit", 1, 4), ("back", 2, 8), ("on", 0),
            ("back", 0, 7), ("hit", 1, 4), ("hit", 2, 8),
            ("hit", 0, 7), ("own", 1, 1), ("hit", 2, 8),
            ("hit", 0, 7), ("off", 0), ("own", 1, 2), ("done", 1), ("hit", 2, 8), ("on", 0),
            ("back", 0, 7), ("done", 0), ("hit", 2, 8), ("done", 2),
        ])
        self.assertEqual(job_faults(jobs, 4), [(1, 2), (6, 0), (1, 1)])

    def test_pages_that_work_no_more_leave_ahead_of_the_fault(self):
        # Behind the third request of job 0 its page 1 works no more, so a frame is free for page 3.
        jobs = [([1, 2, 3], 2), ([9, 9, 9], 1)]
        told = story(jobs, 3)
        self.assertEqual(happened(told, "off"), [])
        self.assertEqual(job_faults(jobs, 3), [(3, 0), (1, 0)])

    def test_a_job_that_was_put_off_has_no_turn_in_that_round(self):
        told = story(CROWDED, 2)
        at = told.index(("off", 1))
        self.assertNotIn(1, [one[1] for one in told[at + 1:told.index(("done", 0))]])


class TestLettingOn(unittest.TestCase):
    def test_all_are_let_on_at_first(self):
        jobs = [([page], 1) for page in range(6)]
        self.assertEqual(story(jobs, 1)[:6], [("on", job) for job in range(6)])

    def test_let_on_up_to_the_frames_less_one(self):
        # Job 1 has one working page, and waits till job 0 has one less than the two that may be together.
        jobs = [([1, 2, 3, 3, 3, 3, 3], 3), ([8, 8, 8, 8], 1)]
        self.assertEqual(story(jobs, 3), [
            ("on", 0), ("on", 1), ("own", 0, 1), ("own", 1, 8), ("own", 0, 2), ("hit", 1, 8),
            ("off", 1), ("own", 0, 3), ("hit", 0, 3), ("hit", 0, 3), ("on", 1),
            ("hit", 0, 3), ("back", 1, 8), ("hit", 0, 3), ("done", 0), ("hit", 1, 8), ("done", 1),
        ])

    def test_the_first_that_does_not_fit_keeps_those_behind_it_off(self):
        # Behind the third round job 0 has two working pages: job 1 with its one would fit,
        # but job 2 with its two stands ahead of it and does not.
        jobs = [([1, 1, 1, 2, 3, 4, 4, 4, 3, 3, 3, 3, 3], 4), ([7] * 6, 1), ([5, 6, 5, 6, 5, 6], 2)]
        self.assertEqual(story(jobs, 4, turn=3), [
            ("on", 0), ("on", 1), ("on", 2),
            ("own", 0, 1), ("hit", 0, 1), ("hit", 0, 1), ("own", 1, 7), ("hit", 1, 7), ("hit", 1, 7),
            ("own", 2, 5), ("own", 2, 6), ("hit", 2, 5),
            ("off", 2), ("own", 0, 2), ("own", 0, 3), ("off", 1), ("own", 0, 4),
            ("hit", 0, 4), ("hit", 0, 4), ("hit", 0, 3),
            ("hit", 0, 3), ("hit", 0, 3), ("hit", 0, 3), ("on", 2),
            ("hit", 0, 3), ("done", 0), ("back", 2, 6), ("back", 2, 5), ("hit", 2, 6), ("done", 2), ("on", 1),
            ("back", 1, 7), ("hit", 1, 7), ("hit", 1, 7), ("done", 1),
        ])

    def test_where_none_is_on_the_first_is_let_on_whatever_it_has(self):
        # Job 0 keeps two working pages: more than the frames less one.
        jobs = [([1, 2, 2, 1, 1], 2), ([1, 2, 1, 2], 2)]
        self.assertEqual(story(jobs, 2, turn=2), [
            ("on", 0), ("on", 1), ("own", 0, 1), ("own", 0, 2), ("off", 0),
            ("own", 1, 1), ("own", 1, 2), ("hit", 1, 1), ("hit", 1, 2), ("done", 1),
            ("on", 0), ("back", 0, 2), ("own", 0, 1), ("hit", 0, 1), ("done", 0),
        ])

    def test_the_last_in_the_line_is_the_last_put_off(self):
        jobs = [([5, 5, 5], 1), ([5, 5, 5], 1), ([5, 5, 5], 1)]
        told = story(jobs, 1, turn=1)
        self.assertEqual(told, plain_story(jobs, 1, 1))
        self.assertEqual([one for one in told if len(one) == 2], [
            ("on", 0), ("on", 1), ("on", 2), ("off", 2), ("off", 0), ("done", 1),
            ("on", 2), ("done", 2), ("on", 0), ("done", 0),
        ])


class TestDrawn(unittest.TestCase):
    def test_against_the_words_of_the_document(self):
        seen = set()
        for seed in range(600):
            jobs, frames, turn = drawn_jobs(seed)
            told = story(jobs, frames, turn=turn)
            self.assertEqual(told, plain_story(jobs, frames, turn), seed)
            self.assertEqual(job_faults(jobs, frames, turn=turn), plain_job_faults(jobs, frames, turn), seed)
            seen |= {one[0] for one in told}
        self.assertEqual(seen, {"on", "off", "done", "hit", "own", "back"})

    def test_own_faults_are_those_of_the_window_and_back_ones_at_most_what_was_lost(self):
        for seed in range(200):
            jobs, frames, turn = drawn_jobs(seed)
            lost = PlainTurns(jobs, frames, turn).run().lost
            for (trace, window), (own, back), many in zip(jobs, job_faults(jobs, frames, turn=turn), lost):
                self.assertEqual(own, count_faults(window_walk(trace, window)))
                self.assertLessEqual(back, many)

    def test_all_come_to_their_end_with_all_their_requests(self):
        for seed in range(200):
            jobs, frames, turn = drawn_jobs(seed)
            told = story(jobs, frames, turn=turn)
            for job, (trace, _) in enumerate(jobs):
                self.assertEqual([one[2] for one in told if len(one) == 3 and one[1] == job], trace)
                self.assertEqual(told.count(("done", job)), 1 if trace else 0)
                control = [one[0] for one in told if len(one) == 2 and one[1] == job]
                self.assertEqual(control[::2], ["on"] * ((len(control) + 1) // 2))
                self.assertEqual(control[1::2], ["off"] * (len(control) // 2 - 1) + ["done"] * bool(trace))

    def test_never_more_pages_than_frames(self):
        for seed in range(100):
            jobs, frames, turn = drawn_jobs(seed)
            told = story(jobs, frames, turn=turn)
            self.assertLessEqual(self.most_held(jobs, told), frames)

    def most_held(self, jobs, told):
        """The most pages that are held at once, gone through by the told happenings alone."""
        held, asked, most = [set() for _ in jobs], [0] * len(jobs), 0
        for one in told:
            job = one[1]
            if len(one) == 2:
                held[job] = set()
                continue
            asked[job] += 1
            trace, window = jobs[job]
            works = trace[max(0, asked[job] - window):asked[job]]
            self.assertEqual(one[0] == "hit", one[2] in held[job])
            held[job] = (held[job] | {one[2]}) & set(works)
            most = max(most, sum(len(pages) for pages in held))
        return most

    def test_frames_enough_for_all_put_none_off(self):
        for seed in range(60):
            jobs, _, turn = drawn_jobs(seed)
            told = story(jobs, sum(window for _, window in jobs), turn=turn)
            self.assertEqual(happened(told, "off") + happened(told, "back"), [])


class TestRefusals(unittest.TestCase):
    def refused(self, kind, what, jobs, frames, turn):
        for told in (story, job_faults):
            with self.assertRaises(PageError) as seen:
                told(jobs, frames, turn=turn)
            self.assertEqual((seen.exception.__class__, seen.exception.what), (kind, what))

    def test_no_window(self):
        for window in (0, -1, -10 ** 5000):
            self.refused(NoWindow, 0, [([1], window)], 5, 1)
            self.refused(NoWindow, 1, [([1], 2), ([1], window), ([1], 0)], 5, 1)
            self.refused(NoWindow, 2, [([1], 2), ([], 3), ([], window)], 5, 1)

    def test_no_room(self):
        for frames in (3, 1, 0, -1, -10 ** 5000):
            self.refused(NoRoom, frames, [([1], 2), ([1], 4), ([1], 3)], frames, 1)
        self.refused(NoRoom, 3, [([], 4), ([1], 1)], 3, 1)
        for frames in (0, -1, -300):
            self.refused(NoRoom, frames, [], frames, 1)
            self.refused(NoRoom, frames, [([1], 1)], frames, 1)

    def test_no_turn(self):
        for turn in (0, -1, -300, -10 ** 5000):
            self.refused(NoTurn, turn, [([1], 2)], 2, turn)
            self.refused(NoTurn, turn, [([], 2)], 2, turn)
            self.refused(NoTurn, turn, [], 1, turn)

    def test_order(self):
        self.refused(NoWindow, 1, [([1], 9), ([1], 0)], -5, -6)
        self.refused(NoWindow, 0, [([1], 0)], 5, -6)
        self.refused(NoWindow, 1, [([1], 9), ([1], 0)], 5, 1)
        self.refused(NoRoom, 8, [([1], 9)], 8, 0)
        self.refused(NoRoom, 0, [], 0, 0)

    def test_just_enough(self):
        self.assertEqual(story([([1], 4)], 4, turn=1), [("on", 0), ("own", 0, 1), ("done", 0)])

    def test_what_is_refused_changes_nothing(self):
        jobs = [([1, 2], 2), ([1], 0)]
        self.refused(NoWindow, 1, jobs, 2, 1)
        self.assertEqual(jobs, [([1, 2], 2), ([1], 0)])


class TestAsking(unittest.TestCase):
    def test_by_place_and_by_name(self):
        for told in (story, job_faults):
            wanted = told(CROWDED, 2, turn=2)
            self.assertEqual(told(turn=2, frames=2, jobs=CROWDED), wanted)
            self.assertEqual(told(CROWDED, frames=2, turn=2), wanted)

    def test_the_turn_by_its_name_alone(self):
        for told in (story, job_faults):
            with self.assertRaises(TypeError):
                told(CROWDED, 2, 1)

    def test_kinds(self):
        for told in (story(CROWDED, 2), job_faults(CROWDED, 2)):
            self.assertIs(told.__class__, list)
            self.assertEqual({one.__class__ for one in told}, {tuple})
        for own, back in job_faults(CROWDED, 2):
            self.assertEqual((own.__class__, back.__class__), (int, int))

    def test_what_is_handed_in_stays(self):
        jobs = copy.deepcopy(CROWDED)
        story(jobs, 2)
        job_faults(jobs, 2)
        self.assertEqual(jobs, CROWDED)

    def test_told_lists_are_the_askers_own(self):
        for jobs in (CROWDED, []):
            for told in (story, job_faults):
                kept = told(jobs, 2)
                told(jobs, 2).append("else")
                told(jobs, 2).clear()
                self.assertEqual(told(jobs, 2), kept)

    def test_changed_jobs_change_nothing_told(self):
        jobs = copy.deepcopy(CROWDED)
        told = story(jobs, 2), job_faults(jobs, 2)
        for trace, _ in jobs:
            trace.clear()
        jobs.clear()
        self.assertEqual(told, (story(CROWDED, 2), job_faults(CROWDED, 2)))

    def test_one_trace_for_several_jobs(self):
        trace = [1, 2, 3, 1, 2]
        jobs = [(trace, 2), (trace, 3)]
        self.assertEqual(story(jobs, 3), plain_story(jobs, 3, 1))
        self.assertEqual(trace, [1, 2, 3, 1, 2])


class TestGreatest(unittest.TestCase):
    def greatest(self):
        draw = random.Random(12)
        mixed = [[draw.randrange(80) * 10 ** 7 for _ in range(200)] for _ in range(6)]
        return [
            [(list(range(job, job + 200)), 64) for job in range(6)],
            [([page % 64 for page in range(200)], 64) for _ in range(6)],
            [([10 ** 9 - page for page in drawn_trace(draw, 200)], 5 + job) for job in range(6)],
            [(trace, 11 * job + 9) for job, trace in enumerate(mixed)],
            [([0] * 200, 1) for _ in range(6)],
        ]

    def test_six_jobs_sixty_four_frames(self):
        for jobs in self.greatest():
            for turn in (1, 2, 7, 100, 199, 200, 300):
                told = story(jobs, 64, turn=turn)
                self.assertEqual(told, plain_story(jobs, 64, turn))
                self.assertEqual(len([one for one in told if len(one) == 3]), 1200)
                self.assertEqual(job_faults(jobs, 64, turn=turn), plain_job_faults(jobs, 64, turn))

    def test_as_few_frames_as_can_be(self):
        for jobs in self.greatest():
            frames = max(window for _, window in jobs)
            for turn in (1, 50, 300):
                self.assertEqual(story(jobs, frames, turn=turn), plain_story(jobs, frames, turn))

    def test_somewhat_beyond(self):
        jobs = [([page % 40 for page in range(250)], 70) for _ in range(8)]
        for frames, turn in ((70, 1), (80, 10 ** 12), (10 ** 60, 400)):
            told = story(jobs, frames, turn=turn)
            self.assertEqual(sorted(happened(told, "done")), [("done", job) for job in range(8)])
            self.assertEqual([own for own, _ in job_faults(jobs, frames, turn=turn)], [40] * 8)


if __name__ == "__main__":
    unittest.main()
