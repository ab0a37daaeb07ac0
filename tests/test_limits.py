"""[2]: the greatest inputs are answered."""

import unittest

from pagerooms.fewest import bound, fewest, paper
from pagerooms.walks import curve, depths, dip, faults, walk
from tests.plain import RULES, expected_walk, mixed_trace, plain_bound

ROOMS = (1, 2, 3, 20, 99, 100, 150, 197, 198, 199, 200, 299, 300)


def greatest_traces():
    return [
        list(range(199)) + [0],
        [10 ** 9 - page for page in range(199)] + [10 ** 9],
        list(range(100)) * 2,
        list(range(100)) + list(reversed(range(100))),
        [0] * 200,
        [page * 5025125 for page in mixed_trace(200, 199, 1)],
        mixed_trace(200, 100, 2),
        mixed_trace(200, 25, 3),
        mixed_trace(200, 4, 4),
    ]


class TestGreatest(unittest.TestCase):
    def test_walks_and_faults(self):
        for trace in greatest_traces():
            for room in ROOMS:
                for rule in RULES:
                    told = walk(trace, room, rule=rule)
                    self.assertEqual(len(told), 200)
                    self.assertEqual(faults(trace, room, rule=rule), [word for _, word, _ in told].count("fault"))

    def test_some_walks_are_the_right_ones(self):
        for trace in greatest_traces():
            for rule in RULES:
                for room in (3, 100):
                    self.assertEqual(walk(trace, room, rule=rule), expected_walk(trace, room, rule))

    def test_depths_curve_and_dip(self):
        for trace in greatest_traces():
            many = len(set(trace))
            self.assertEqual(depths(trace).count(None), many)
            told = curve(trace)
            self.assertEqual(len(told), many)
            self.assertEqual(told, sorted(told, reverse=True))
            self.assertEqual(told[-1], many)
            self.assertTrue(dip(trace) is None or 1 <= dip(trace) < many)

    def test_depth_of_the_last_page(self):
        self.assertEqual(depths(list(range(199)) + [0])[-1], 199)
        self.assertEqual(curve(list(range(199)) + [0]), [200] * 198 + [199])

    def test_papers_show_the_fewest(self):
        for trace in greatest_traces():
            for room in ROOMS:
                told = paper(trace, room)
                self.assertEqual(bound(trace, room, told), fewest(trace, room))
                self.assertEqual(plain_bound(trace, room, told), fewest(trace, room))

    def test_papers_of_two_hundred_places(self):
        for trace in greatest_traces():
            for places in (list(range(200)), list(range(199, -1, -1)), [place * 2 - 100 for place in range(200)]):
                for room in ROOMS:
                    told = bound(trace, room, places)
                    self.assertEqual(told, plain_bound(trace, room, places))
                    self.assertLessEqual(told, fewest(trace, room))

    def test_somewhat_beyond(self):
        trace = mixed_trace(260, 220, 5)
        for room in (1, 50, 400, 10 ** 60):
            for rule in RULES:
                self.assertEqual(len(walk(trace, room, rule=rule)), 260)
            self.assertEqual(bound(trace, room, paper(trace, room)), fewest(trace, room))


if __name__ == "__main__":
    unittest.main()
