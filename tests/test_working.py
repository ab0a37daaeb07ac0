"""[11], and [2] and [3] as far as they speak of pages that work."""

import random
import unittest

from pagerooms.errors import NoWindow, PageError
from pagerooms.walks import walk
from pagerooms.working import window_walk, working
from tests.plain import DIPPING, count_faults, mixed_trace, unlike_traces
from tests.plain_turns import drawn_trace, plain_window_walk, plain_working


class TestWorking(unittest.TestCase):
    def test_empty_trace(self):
        for window in (1, 2, 300):
            self.assertEqual(working([], window), [])
            self.assertEqual(window_walk([], window), [])

    def test_told(self):
        self.assertEqual(working([3, 1, 3, 2, 2, 2], 1), [[3], [1], [3], [2], [2], [2]])
        self.assertEqual(working([3, 1, 3, 2, 2, 2], 2), [[3], [1, 3], [1, 3], [2, 3], [2], [2]])
        self.assertEqual(working([3, 1, 3, 2, 2, 2], 3), [[3], [1, 3], [1, 3], [1, 2, 3], [2, 3], [2]])

    def test_a_window_over_the_whole_trace(self):
        for window in (4, 5, 300, 10 ** 60):
            self.assertEqual(working([9, 0, 9, 4], window), [[9], [0, 9], [0, 9], [0, 4, 9]])

    def test_against_the_words_of_the_document(self):
        for length in range(7):
            for trace in unlike_traces(length):
                for window in range(1, 8):
                    self.assertEqual(working(trace, window), plain_working(trace, window), (trace, window))

    def test_drawn(self):
        for seed in range(40):
            trace = drawn_trace(random.Random(seed), 60)
            for window in (1, 2, 3, 5, 9, 59, 60, 61):
                self.assertEqual(working(trace, window), plain_working(trace, window), (seed, window))

    def test_sorted_by_worth(self):
        self.assertEqual(working([10 ** 9, 0, 30, 4], 4)[-1], [0, 4, 30, 10 ** 9])


class TestWindowWalk(unittest.TestCase):
    def test_told(self):
        told = [(3, "fault", ()), (1, "fault", ()), (3, "hit", ()), (2, "fault", (1,)), (2, "hit", (3,))]
        self.assertEqual(window_walk([3, 1, 3, 2, 2], 2), told)

    def test_window_of_one(self):
        told = [(1, "fault", ()), (1, "hit", ()), (2, "fault", (1,)), (1, "fault", (2,))]
        self.assertEqual(window_walk([1, 1, 2, 1], 1), told)

    def test_the_farthest_hit(self):
        # Behind the request ahead 0 works still, by the first request of the window.
        self.assertEqual(window_walk([0, 1, 2, 0], 3)[-1], (0, "hit", ()))
        self.assertEqual(window_walk([0, 1, 2, 3, 0], 3)[-2:], [(3, "fault", (0,)), (0, "fault", (1,))])

    def test_a_page_asked_for_again_does_not_go(self):
        self.assertEqual(window_walk([0, 1, 0], 2)[-1], (0, "hit", ()))

    def test_a_hit_with_a_page_that_goes(self):
        self.assertEqual(window_walk([0, 1, 1], 2)[-1], (1, "hit", (0,)))

    def test_page_0_goes_as_any_other(self):
        self.assertEqual(window_walk([0, 1], 1)[-1], (1, "fault", (0,)))

    def test_against_the_words_of_the_document(self):
        for length in range(7):
            for trace in unlike_traces(length):
                for window in range(1, 8):
                    self.assertEqual(window_walk(trace, window), plain_window_walk(trace, window), (trace, window))

    def test_drawn(self):
        for seed in range(40):
            trace = drawn_trace(random.Random(seed), 60)
            for window in (1, 2, 3, 5, 9, 59, 60, 61):
                self.assertEqual(window_walk(trace, window), plain_window_walk(trace, window), (seed, window))

    def test_the_walk_holds_the_working_pages(self):
        for seed in range(20):
            trace = mixed_trace(80, 9, seed)
            for window in (1, 2, 4, 7):
                held = set()
                for (page, word, gone), works in zip(window_walk(trace, window), working(trace, window)):
                    self.assertEqual(word, "hit" if page in held else "fault")
                    held = (held | {page}) - set(gone)
                    self.assertEqual(sorted(held), works)

    def test_a_greater_window_has_no_more_faults_and_holds_all(self):
        for seed in range(20):
            trace = drawn_trace(random.Random(seed), 70)
            for window in range(1, 72):
                less, more = window_walk(trace, window), window_walk(trace, window + 1)
                self.assertLessEqual(count_faults(more), count_faults(less))
                for few, many in zip(working(trace, window), working(trace, window + 1)):
                    self.assertLessEqual(set(few), set(many))

    def test_no_fewer_faults_than_by_last_in_a_room_of_the_window(self):
        for seed in range(20):
            trace = mixed_trace(80, 9, seed)
            for window in range(1, 12):
                self.assertGreaterEqual(count_faults(window_walk(trace, window)), count_faults(walk(trace, window)))


class TestRefusals(unittest.TestCase):
    def test_no_window(self):
        for window in (0, -1, -300, -10 ** 5000):
            for trace in ([], [1, 2, 1]):
                for told in (working, window_walk):
                    with self.assertRaises(PageError) as seen:
                        told(trace, window)
                    self.assertEqual((seen.exception.__class__, seen.exception.what), (NoWindow, window))


class TestAsking(unittest.TestCase):
    def test_by_place_and_by_name(self):
        for told in (working, window_walk):
            self.assertEqual(told(window=2, trace=DIPPING), told(DIPPING, 2))
            self.assertEqual(told(DIPPING, window=2), told(DIPPING, 2))

    def test_kinds(self):
        self.assertIs(working([1], 1).__class__, list)
        self.assertIs(working([1], 1)[0].__class__, list)
        self.assertIs(window_walk([1], 1).__class__, list)
        self.assertIs(window_walk([1], 1)[0].__class__, tuple)
        for told in window_walk([1, 2], 1):
            self.assertIs(told[2].__class__, tuple)

    def test_what_is_handed_in_stays(self):
        trace = list(DIPPING)
        working(trace, 3)
        window_walk(trace, 3)
        self.assertEqual(trace, DIPPING)

    def test_told_lists_are_the_askers_own(self):
        trace = list(DIPPING)
        kept = working(trace, 3), window_walk(trace, 3)
        for told in working(trace, 3):
            told.append(99)
        working(trace, 3).clear()
        window_walk(trace, 3).clear()
        self.assertEqual((working(trace, 3), window_walk(trace, 3)), kept)
        self.assertEqual(trace, DIPPING)

    def test_each_told_list_is_one_of_its_own(self):
        told = working([1, 1, 1], 2)
        told[0].append(5)
        self.assertEqual(told, [[1, 5], [1], [1]])

    def test_a_changed_trace_changes_nothing_told(self):
        trace = [1, 2, 1]
        told = working(trace, 2), window_walk(trace, 2)
        trace.clear()
        walked = [(1, "fault", ()), (2, "fault", ()), (1, "hit", ())]
        self.assertEqual(told, ([[1], [1, 2], [1, 2]], walked))


class TestGreatest(unittest.TestCase):
    def test_two_hundred_requests(self):
        traces = [
            list(range(200)),
            [10 ** 9 - page for page in range(200)],
            list(range(100)) * 2,
            [0] * 200,
            mixed_trace(200, 150, 1),
            drawn_trace(random.Random(3), 200),
        ]
        for trace in traces:
            for window in (1, 2, 99, 100, 101, 199, 200, 201, 300):
                self.assertEqual(working(trace, window), plain_working(trace, window))
                self.assertEqual(window_walk(trace, window), plain_window_walk(trace, window))

    def test_somewhat_beyond(self):
        trace = mixed_trace(300, 250, 2)
        for window in (1, 290, 10 ** 60):
            self.assertEqual(working(trace, window), plain_working(trace, window))


if __name__ == "__main__":
    unittest.main()
