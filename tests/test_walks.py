"""[5], [6], [7], and [2] and [4] as far as they speak of walks."""

import unittest

from pagerooms.errors import NoRoom, NoRule, PageError
from pagerooms.walks import curve, depths, dip, faults, walk
from tests.plain import DIPPING, RULES, all_traces, count_faults, expected_walk, mixed_trace, unlike_traces


def gone_pages(told):
    return [gone for _, _, gone in told]


class TestWalk(unittest.TestCase):
    def test_empty_trace(self):
        for rule in RULES:
            for room in (1, 2, 300):
                self.assertEqual(walk([], room, rule=rule), [])
                self.assertEqual(faults([], room, rule=rule), 0)

    def test_one_page(self):
        for rule in RULES:
            for room in (1, 2, 300):
                told = [(7, "fault", None), (7, "hit", None), (7, "hit", None)]
                self.assertEqual(walk([7, 7, 7], room, rule=rule), told)
                self.assertEqual(faults([7, 7, 7], room, rule=rule), 1)

    def test_room_of_one(self):
        told = [(1, "fault", None), (2, "fault", 1), (2, "hit", None), (1, "fault", 2)]
        for rule in RULES:
            self.assertEqual(walk([1, 2, 2, 1], 1, rule=rule), told)

    def test_page_zero_goes_as_any_other(self):
        told = [(0, "fault", None), (1, "fault", 0), (0, "fault", 1)]
        for rule in RULES:
            self.assertEqual(walk([0, 1, 0], 1, rule=rule), told)

    def test_round_and_round(self):
        trace = [1, 2, 3] * 4
        for rule in ("first", "last", "clock"):
            self.assertEqual(faults(trace, 2, rule=rule), 12)
        self.assertEqual(faults(trace, 2, rule="far"), 7)
        for rule in RULES:
            self.assertEqual(faults(trace, 3, rule=rule), 3)
            self.assertEqual(faults(trace, 4, rule=rule), 3)

    def test_room_for_all_pages_takes_none_out(self):
        for rule in RULES:
            for room in (5, 6, 300):
                told = walk(DIPPING, room, rule=rule)
                self.assertEqual(gone_pages(told), [None] * 12)
                self.assertEqual(faults(DIPPING, room, rule=rule), 5)

    def test_first_passes_over_hits(self):
        self.assertEqual(gone_pages(walk([1, 2, 1, 3, 1], 2, rule="first")), [None, None, None, 1, 2])

    def test_last_heeds_hits(self):
        self.assertEqual(gone_pages(walk([1, 2, 1, 3, 1], 2, rule="last")), [None, None, None, 2, None])

    def test_far_takes_the_farthest(self):
        self.assertEqual(gone_pages(walk([1, 2, 3, 4, 1, 3, 2], 3, rule="far"))[3], 2)

    def test_far_takes_one_without_request_before_all_others(self):
        self.assertEqual(gone_pages(walk([1, 9, 3, 4, 1, 3], 3, rule="far"))[3], 9)

    def test_far_takes_the_least_of_several_without_request(self):
        told = walk([8, 2, 5, 1, 3, 4], 3, rule="far")
        self.assertEqual(gone_pages(told), [None, None, None, 2, 1, 3])

    def test_far_after_the_last_hit(self):
        told = walk([4, 6, 4, 5, 6], 2, rule="far")
        self.assertEqual(gone_pages(told), [None, None, None, 4, None])

    def test_clock_goes_round_over_marked_frames(self):
        # All are marked at the first search: the hand takes each mark, and comes back to frame 0.
        told = walk([1, 2, 3, 4], 3, rule="clock")
        self.assertEqual(told[3], (4, "fault", 1))

    def test_clock_passes_over_a_frame_marked_by_a_hit(self):
        # 4 clears all marks and leaves the hand on 2, which the hit marks: 5 goes on to 3.
        told = walk([1, 2, 3, 4, 2, 5], 3, rule="clock")
        self.assertEqual(told[4:], [(2, "hit", None), (5, "fault", 3)])

    def test_clock_takes_a_frame_not_marked(self):
        told = walk([1, 2, 3, 4, 5, 6, 7], 3, rule="clock")
        self.assertEqual(gone_pages(told), [None, None, None, 1, 2, 3, 4])

    def test_clock_goes_on_beyond_the_frame_it_filled(self):
        # Behind 4 in frame 0 (marked) the hand is on 1; hits mark frames 1 and 2, so 5 sweeps all and takes frame 1.
        told = walk([1, 2, 3, 4, 2, 3, 5, 6], 3, rule="clock")
        self.assertEqual(gone_pages(told)[6:], [2, 3])

    def test_rule_left_out_is_last(self):
        for trace in ([1, 2, 1, 3, 1], DIPPING):
            for room in range(1, 6):
                self.assertEqual(walk(trace, room), walk(trace, room, rule="last"))
                self.assertEqual(faults(trace, room), faults(trace, room, rule="last"))
        self.assertNotEqual(walk([1, 2, 1, 3, 1], 2), walk([1, 2, 1, 3, 1], 2, rule="first"))

    def test_all_small_traces(self):
        for length in range(1, 6):
            for trace in all_traces(length, 4):
                for room in range(1, 5):
                    self.compare(trace, room)

    def test_mixed_traces(self):
        for seed in range(30):
            trace = mixed_trace(60, 3 + seed % 9, seed)
            for room in range(1, 11):
                self.compare(trace, room)

    def compare(self, trace, room):
        for rule in RULES:
            told = expected_walk(trace, room, rule)
            self.assertEqual(walk(trace, room, rule=rule), told, (trace, room, rule))
            self.assertEqual(faults(trace, room, rule=rule), count_faults(told))

    def test_great_pages(self):
        trace = [10 ** 9, 0, 10 ** 9 - 1, 10 ** 9]
        for rule in RULES:
            self.assertEqual(walk(trace, 2, rule=rule), expected_walk(trace, 2, rule))


class TestRefusals(unittest.TestCase):
    def refused(self, kind, what, trace, room, rule):
        for told in (walk, faults):
            with self.assertRaises(PageError) as seen:
                told(trace, room, rule=rule)
            self.assertEqual((seen.exception.__class__, seen.exception.what), (kind, what))

    def test_no_rule(self):
        for rule in ("", "Last", "last ", "lru", "fa", "firstlast"):
            self.refused(NoRule, rule, [1, 2], 1, rule)
            self.refused(NoRule, rule, [], 1, rule)

    def test_no_rule_goes_ahead_of_no_room(self):
        self.refused(NoRule, "none", [1], 0, "none")
        self.refused(NoRule, "none", [], -5, "none")

    def test_no_room(self):
        for rule in RULES:
            for room in (0, -1, -300, -10 ** 5000):
                self.refused(NoRoom, room, [1, 2], room, rule)
                self.refused(NoRoom, room, [], room, rule)

    def test_no_room_with_the_rule_left_out(self):
        for told in (walk, faults):
            with self.assertRaises(NoRoom) as seen:
                told([1], 0)
            self.assertEqual(seen.exception.what, 0)


class TestDepths(unittest.TestCase):
    def test_told(self):
        self.assertEqual(depths([]), [])
        self.assertEqual(depths([5]), [None])
        self.assertEqual(depths([5, 5, 5]), [None, 1, 1])
        self.assertEqual(depths([1, 2, 1, 1, 2]), [None, None, 2, 1, 2])
        self.assertEqual(depths([1, 2, 2, 3, 2, 1]), [None, None, 1, None, 2, 3])
        self.assertEqual(depths([0, 1, 2] * 2), [None, None, None, 3, 3, 3])

    def test_a_hit_by_last_is_a_depth_within_the_room(self):
        for seed in range(20):
            trace = mixed_trace(40, 8, seed)
            deep = depths(trace)
            for room in range(1, 10):
                words = ["hit" if depth is not None and depth <= room else "fault" for depth in deep]
                self.assertEqual([word for _, word, _ in walk(trace, room)], words)


class TestCurve(unittest.TestCase):
    def test_told(self):
        self.assertEqual(curve([]), [0])
        self.assertEqual(curve([3]), [1])
        self.assertEqual(curve([3, 3]), [1])
        self.assertEqual(curve([1, 2, 1, 2]), [4, 2])
        self.assertEqual(curve([1, 2, 3, 1, 2, 3]), [6, 6, 3])
        self.assertEqual(curve(DIPPING), [12, 12, 10, 8, 5])

    def test_faults_by_last_and_never_more_in_one_room_more(self):
        for length in range(1, 7):
            for trace in unlike_traces(length):
                told = curve(trace)
                rooms = range(1, len(set(trace)) + 1)
                self.assertEqual(told, [count_faults(expected_walk(trace, room, "last")) for room in rooms])
                self.assertEqual(told, sorted(told, reverse=True))

    def test_no_room_more_brings_a_fault_more(self):
        for seed in range(10):
            trace = mixed_trace(100, 12, seed)
            many = [faults(trace, room) for room in range(1, 16)]
            self.assertEqual(many, sorted(many, reverse=True))


class TestDip(unittest.TestCase):
    def test_a_dip(self):
        self.assertEqual(faults(DIPPING, 3, rule="first"), 9)
        self.assertEqual(faults(DIPPING, 4, rule="first"), 10)
        self.assertEqual(dip(DIPPING), 3)

    def test_none(self):
        for trace in ([], [1], [1, 1], [1, 2], [1, 2, 3] * 5, [1, 2, 3, 2, 1]):
            self.assertIsNone(dip(trace))

    def test_the_least_of_all(self):
        told = set()
        for seed in range(300):
            trace = mixed_trace(60, 4 + seed % 7, seed)
            many = len(set(trace))
            by_first = [count_faults(expected_walk(trace, room, "first")) for room in range(1, many + 1)]
            dips = [room for room in range(1, many) if by_first[room] > by_first[room - 1]]
            self.assertEqual(dip(trace), dips[0] if dips else None)
            told.add(dip(trace))
        self.assertIn(None, told)
        self.assertGreater(len(told), 1)


class TestAsking(unittest.TestCase):
    def test_by_place_and_by_name(self):
        told = walk([1, 2, 1], 1, rule="first")
        self.assertEqual(walk(rule="first", room=1, trace=[1, 2, 1]), told)
        self.assertEqual(faults(rule="first", room=1, trace=[1, 2, 1]), 3)
        self.assertEqual(depths(trace=[1, 1]), [None, 1])
        self.assertEqual(curve(trace=[1, 1]), [1])
        self.assertEqual(dip(trace=DIPPING), 3)

    def test_the_rule_by_its_name_alone(self):
        for told in (walk, faults):
            with self.assertRaises(TypeError):
                told([1], 1, "last")

    def test_kinds(self):
        for told in (walk([1], 1), depths([1]), curve([1])):
            self.assertIs(told.__class__, list)
        self.assertIs(walk([1], 1)[0].__class__, tuple)
        for told in (faults([1], 1), curve([1])[0], depths([1, 1])[1], dip(DIPPING)):
            self.assertIs(told.__class__, int)

    def test_what_is_handed_in_stays(self):
        trace = list(DIPPING)
        for rule in RULES:
            walk(trace, 3, rule=rule)
            faults(trace, 3, rule=rule)
        depths(trace)
        curve(trace)
        dip(trace)
        self.assertEqual(trace, DIPPING)

    def test_told_lists_are_the_askers_own(self):
        trace = list(DIPPING)
        asks = [lambda rule=rule: walk(trace, 3, rule=rule) for rule in RULES]
        asks += [lambda: depths(trace), lambda: curve(trace)]
        for ask in asks:
            before = ask()
            kept = list(before)
            self.assertIsNot(ask(), before)
            before.clear()
            before.append("else")
            self.assertEqual(ask(), kept)
        self.assertEqual(trace, DIPPING)

    def test_of_an_empty_trace_too(self):
        for told in (curve, depths):
            told([]).append(5)
        self.assertEqual((curve([]), depths([])), ([0], []))

    def test_a_changed_trace_changes_nothing_told(self):
        trace = list(DIPPING)
        told = [walk(trace, 3, rule=rule) for rule in RULES] + [depths(trace), curve(trace)]
        kept = [list(one) for one in told]
        trace.clear()
        self.assertEqual(told, kept)


if __name__ == "__main__":
    unittest.main()
