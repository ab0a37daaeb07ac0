"""[8], [9], and [2] and [4] as far as they speak of the fewest."""

import itertools
import unittest

from pagerooms.errors import NoRoom, PageError
from pagerooms.fewest import bound, fewest, paper
from pagerooms.walks import faults
from tests.plain import (
    DIPPING, RULES, best_paper_of_all, fewest_of_all_choices, mixed_trace, plain_bound, unlike_traces,
)


class TestFewest(unittest.TestCase):
    def test_told(self):
        self.assertEqual(fewest([], 1), 0)
        self.assertEqual(fewest([4], 1), 1)
        self.assertEqual(fewest([4, 4, 4], 1), 1)
        self.assertEqual([fewest(DIPPING, room) for room in range(1, 7)], [12, 9, 7, 6, 5, 5])
        self.assertEqual(fewest([1, 2, 3] * 4, 2), 7)

    def test_against_all_choices(self):
        for length in range(7):
            for trace in unlike_traces(length):
                for room in range(1, 6):
                    self.assertEqual(fewest(trace, room), fewest_of_all_choices(trace, room), (trace, room))

    def test_longer_ones_against_all_choices(self):
        for seed in range(20):
            trace = mixed_trace(25, 7, seed)
            for room in range(1, 8):
                self.assertEqual(fewest(trace, room), fewest_of_all_choices(trace, room), (trace, room))

    def test_no_rule_has_fewer(self):
        for seed in range(20):
            trace = mixed_trace(80, 10, seed)
            for room in range(1, 12):
                least = fewest(trace, room)
                self.assertEqual(faults(trace, room, rule="far"), least)
                for rule in RULES:
                    self.assertGreaterEqual(faults(trace, room, rule=rule), least)


class TestBound(unittest.TestCase):
    def test_told(self):
        self.assertEqual(bound([], 1, []), 0)
        self.assertEqual(bound([], 5, [0, 1, -1]), 0)
        self.assertEqual(bound([1, 2, 1], 1, []), 2)
        self.assertEqual(bound([1, 2, 1], 1, [1]), 3)
        self.assertEqual(bound([1, 2, 1], 2, [1]), 2)
        self.assertEqual(bound([1, 2, 1], 4, [1]), 0)

    def test_the_ends_of_a_gap_are_not_within(self):
        self.assertEqual(bound([1, 2, 1], 1, [0, 2]), 2)

    def test_a_gap_without_numbers_between(self):
        self.assertEqual(bound([1, 1], 1, [0, 1]), 1)

    def test_three_requests_of_a_page_are_two_gaps(self):
        self.assertEqual(bound([1, 2, 1, 3, 1], 1, [1]), 4)
        self.assertEqual(bound([1, 2, 1, 3, 1], 1, [2]), 3)

    def test_below_nothing(self):
        self.assertEqual(bound([1, 2, 3], 300, [0, 1, 2]), 3 - 3 * 299)

    def test_places_twice_and_in_any_order(self):
        told = bound(DIPPING, 3, [2, 6])
        self.assertEqual(told, 7)
        for places in ([6, 2], [2, 6, 2], [6, 6, 2, 2, 6]):
            self.assertEqual(bound(DIPPING, 3, places), told)

    def test_places_that_are_no_numbers_of_requests(self):
        told = bound(DIPPING, 3, [2, 6])
        for places in ([-1, 2, 6], [2, 12, 6], [10 ** 60, 6, -10 ** 60, 2], [6, -6, -10, 2, 13]):
            self.assertEqual(bound(DIPPING, 3, places), told)
        self.assertEqual(bound(DIPPING, 3, [-6]), bound(DIPPING, 3, []))

    def test_the_first_and_the_last_request_count(self):
        empty = bound(DIPPING, 3, [])
        self.assertEqual(bound(DIPPING, 3, [0]), empty - 2)
        self.assertEqual(bound(DIPPING, 3, [11]), empty - 2)

    def test_all_papers_of_small_traces(self):
        for length in range(6):
            for trace in unlike_traces(length):
                for room in (1, 2, 3):
                    self.compare_all(trace, room)

    def compare_all(self, trace, room):
        least = fewest(trace, room)
        for many in range(len(trace) + 1):
            for places in itertools.combinations(range(len(trace)), many):
                told = bound(trace, room, list(places))
                self.assertEqual(told, plain_bound(trace, room, places), (trace, room, places))
                self.assertLessEqual(told, least)

    def test_mixed_papers(self):
        for seed in range(60):
            trace = mixed_trace(50, 9, seed)
            places = [place - 8 for place in mixed_trace(seed, 66, seed + 1)]
            for room in (1, 2, 5, 9):
                told = bound(trace, room, places)
                self.assertEqual(told, plain_bound(trace, room, places))
                self.assertLessEqual(told, fewest(trace, room))


class TestPaper(unittest.TestCase):
    def test_told(self):
        self.assertEqual(paper([], 1), [])
        self.assertEqual(paper([1, 1, 1], 1), [])
        self.assertEqual(paper([1, 2, 1], 1), [1])
        self.assertEqual(paper([1, 2, 1], 2), [])
        self.assertEqual(paper([1, 2, 3, 1], 1), [1])
        self.assertEqual([paper(DIPPING, room) for room in range(1, 7)], [[2, 5, 7], [2, 6], [6], [6], [], []])

    def test_room_for_all_pages_wants_no_place(self):
        for trace in ([], [1], DIPPING, [1, 2] * 20):
            for room in (5, 6, 300):
                self.assertEqual(paper(trace, room), [])

    def test_against_all_papers(self):
        for length in range(8):
            for trace in unlike_traces(length):
                for room in (1, 2, 3, 4):
                    self.compare(trace, room)

    def test_longer_ones_against_all_papers(self):
        for seed in range(30):
            trace = mixed_trace(11, 3 + seed % 4, seed)
            for room in (1, 2, 3):
                self.compare(trace, room)

    def compare(self, trace, room):
        wanted = fewest_of_all_choices(trace, room)
        told = paper(trace, room)
        self.assertEqual(bound(trace, room, told), wanted, (trace, room))
        self.assertEqual(told, best_paper_of_all(trace, room, wanted), (trace, room))

    def test_longer_ones_show_the_fewest(self):
        for seed in range(20):
            trace = mixed_trace(90, 12, seed)
            for room in range(1, 14):
                told = paper(trace, room)
                self.assertEqual(told, sorted(set(told)))
                self.assertTrue(all(0 <= place < 90 for place in told))
                self.assertEqual(bound(trace, room, told), fewest(trace, room))
                self.assertEqual(plain_bound(trace, room, told), fewest(trace, room))


class TestRefusals(unittest.TestCase):
    def test_no_room(self):
        for room in (0, -1, -300, -10 ** 5000):
            for trace in ([], [1, 2, 1]):
                asks = (
                    lambda: fewest(trace, room),
                    lambda: bound(trace, room, [1]),
                    lambda: bound(trace, room, []),
                    lambda: paper(trace, room),
                )
                for ask in asks:
                    with self.assertRaises(PageError) as seen:
                        ask()
                    self.assertEqual((seen.exception.__class__, seen.exception.what), (NoRoom, room))


class TestAsking(unittest.TestCase):
    def test_by_place_and_by_name(self):
        self.assertEqual(fewest(room=3, trace=DIPPING), 7)
        self.assertEqual(paper(room=3, trace=DIPPING), [6])
        self.assertEqual(bound(paper=[6], room=3, trace=DIPPING), bound(DIPPING, 3, [6]))

    def test_kinds(self):
        self.assertIs(fewest([1], 1).__class__, int)
        self.assertIs(bound([1], 1, []).__class__, int)
        self.assertIs(paper([1], 1).__class__, list)

    def test_what_is_handed_in_stays(self):
        trace, places = list(DIPPING), [6, -1, 2, 6, 99]
        fewest(trace, 3)
        paper(trace, 3)
        bound(trace, 3, places)
        self.assertEqual((trace, places), (DIPPING, [6, -1, 2, 6, 99]))

    def test_told_papers_are_the_askers_own(self):
        for trace in (list(DIPPING), []):
            before = paper(trace, 2)
            kept = list(before)
            before.append(99)
            self.assertEqual(paper(trace, 2), kept)

    def test_a_changed_trace_changes_nothing_told(self):
        trace = list(DIPPING)
        told = paper(trace, 2)
        trace.clear()
        self.assertEqual(told, [2, 6])


if __name__ == "__main__":
    unittest.main()
