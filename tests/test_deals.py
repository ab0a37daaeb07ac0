"""[20], [21], and [2], [3] and [4] as far as they speak of deals and prices."""

import copy
import random
import unittest

from pagerooms.deals import deal, deal_faults, price, price_bound
from pagerooms.errors import NoRoom, NoTask, PageError
from pagerooms.walks import curve
from tests.plain import DIPPING, count_faults, expected_walk, mixed_trace
from tests.plain_deals import (
    all_deals, best_deal_from_the_front, best_of_all_deals, drawn_traces, plain_deal_faults, plain_price,
    plain_price_bound,
)

ROUND = [1, 2, 3] * 4
# Curves: [12, 12, 3], [4, 2] and [1].
THREE = [ROUND, [7, 8, 7, 8], [5, 5, 5]]


def saves_ever_less(trace):
    """Whether no room more saves more than the room ahead of it did."""
    falls = curve(trace)
    saved = [falls[at] - falls[at + 1] for at in range(len(falls) - 1)]
    return saved == sorted(saved, reverse=True)


class TestDeal(unittest.TestCase):
    def test_told(self):
        self.assertEqual(deal(THREE, 3), [1, 1, 1])
        self.assertEqual(deal(THREE, 4), [1, 2, 1])
        self.assertEqual(deal(THREE, 5), [3, 1, 1])
        self.assertEqual(deal(THREE, 6), [3, 2, 1])

    def test_no_more_rooms_than_are_of_use(self):
        for frames in (6, 7, 300, 10 ** 60):
            self.assertEqual(deal(THREE, frames), [3, 2, 1])

    def test_the_least_of_several(self):
        self.assertEqual(deal([[1, 2, 1, 2], [1, 2, 1, 2]], 3), [1, 2])
        self.assertEqual(deal([ROUND, ROUND], 5), [1, 3])
        self.assertEqual(deal([ROUND], 2), [1])

    def test_empty_traces_have_a_room_of_one(self):
        self.assertEqual(deal([[]], 1), [1])
        self.assertEqual(deal([[], []], 300), [1, 1])
        self.assertEqual(deal([[], [1, 2, 1], []], 4), [1, 2, 1])

    def test_one_trace(self):
        self.assertEqual([deal([DIPPING], frames) for frames in range(1, 7)], [[1], [1], [3], [4], [5], [5]])

    def test_against_all_deals(self):
        for seed in range(150):
            many = 1 + seed % 4
            traces = drawn_traces(seed, many, 24)
            for frames in range(many, many + 6):
                told = deal(traces, frames)
                self.assertEqual((deal_faults(traces, told), told), best_of_all_deals(traces, frames), (seed, frames))

    def test_against_the_best_from_the_front(self):
        for seed in range(60):
            traces = drawn_traces(seed, 6, 40)
            for frames in (6, 7, 11, 17, 26, 60):
                told = deal(traces, frames)
                best = best_deal_from_the_front(traces, frames)
                self.assertEqual((plain_deal_faults(traces, told), told), best, (seed, frames))

    def test_a_frame_more_brings_no_fault_more(self):
        for seed in range(30):
            traces = drawn_traces(seed, 4, 40)
            told = [deal_faults(traces, deal(traces, frames)) for frames in range(4, 40)]
            self.assertEqual(told, sorted(told, reverse=True))


class TestDealFaults(unittest.TestCase):
    def test_told(self):
        self.assertEqual(deal_faults(THREE, [1, 1, 1]), 17)
        self.assertEqual(deal_faults(THREE, [3, 2, 1]), 6)
        self.assertEqual(deal_faults(THREE, [300, 300, 300]), 6)
        self.assertEqual(deal_faults([[]], [1]), 0)
        self.assertEqual(deal_faults([DIPPING, []], [4, 9]), 8)

    def test_by_the_rule_last(self):
        for seed in range(40):
            traces = drawn_traces(seed, 3, 30)
            for rooms in all_deals(3, 8):
                told = deal_faults(traces, rooms)
                self.assertEqual(told, plain_deal_faults(traces, rooms))
                walks = [expected_walk(trace, room, "last") for trace, room in zip(traces, rooms)]
                self.assertEqual(told, sum(count_faults(one) for one in walks))


class TestPriceBound(unittest.TestCase):
    def test_told(self):
        # At a price of 2: 9 (three rooms) less 10 for all, and 6 (one or two rooms), and 3.
        self.assertEqual(price_bound(THREE, 5, 2), 9 + 6 + 3 - 10)
        self.assertEqual(price_bound(THREE, 5, 0), 3 + 2 + 1)
        self.assertEqual(price_bound([[]], 1, 7), 0)
        self.assertEqual(price_bound([[]], 3, 7), -14)

    def test_rooms_from_one_to_the_frames(self):
        # Three rooms would be of use, but there are two frames.
        self.assertEqual(price_bound([ROUND], 2, 0), 12)
        self.assertEqual(price_bound([ROUND], 3, 0), 3)
        self.assertEqual(price_bound([ROUND], 2, 1), 11)

    def test_against_the_words_of_the_document(self):
        for seed in range(60):
            many = 1 + seed % 4
            traces = drawn_traces(seed, many, 24)
            for frames in (many, many + 1, many + 4, many + 20):
                for cost in (0, 1, 2, 3, 7, 30, 10 ** 59):
                    self.assertEqual(price_bound(traces, frames, cost), plain_price_bound(traces, frames, cost))

    def test_no_deal_has_fewer_faults(self):
        for seed in range(60):
            many = 1 + seed % 3
            traces = drawn_traces(seed, many, 24)
            for frames in range(many, many + 5):
                bounds = [price_bound(traces, frames, cost) for cost in range(26)]
                for rooms in all_deals(many, frames):
                    self.assertLessEqual(max(bounds), deal_faults(traces, rooms))


class TestPrice(unittest.TestCase):
    def test_told(self):
        # Of three frames each price from 5 on shows all faults of rooms of one.
        self.assertEqual(price(THREE, 3), (5, 17))
        self.assertEqual(price(THREE, 6), (0, 6))
        self.assertEqual(price(THREE, 300), (0, 6))
        self.assertEqual(price([[]], 1), (0, 0))
        self.assertEqual(price([[], []], 300), (0, 0))

    def test_the_least_of_several(self):
        traces = [[1, 2, 1, 2], [5, 6, 5, 6]]
        self.assertEqual([price_bound(traces, 3, cost) for cost in range(5)], [4, 5, 6, 5, 4])
        self.assertEqual(price(traces, 3), (2, 6))
        self.assertEqual([price_bound(traces, 2, cost) for cost in range(5)], [4, 6, 8, 8, 8])
        self.assertEqual(price(traces, 2), (2, 8))
        self.assertEqual([price_bound(traces[:1], 1, cost) for cost in range(5)], [4, 4, 4, 4, 4])
        self.assertEqual(price(traces[:1], 1), (0, 4))

    def test_against_all_prices(self):
        for seed in range(150):
            many = 1 + seed % 6
            traces = drawn_traces(seed, many, 30)
            for frames in (many, many + 1, many + 2, many + 5, many + 9, many + 30):
                self.assertEqual(price(traces, frames), plain_price(traces, frames), (seed, frames))

    def test_no_price_has_a_greater_bound(self):
        for seed in range(40):
            traces = drawn_traces(seed, 3, 30)
            for frames in (3, 5, 9):
                best, bound = price(traces, frames)
                self.assertEqual(price_bound(traces, frames, best), bound)
                for cost in list(range(60)) + [10 ** 59, 10 ** 60 - 1]:
                    told = price_bound(traces, frames, cost)
                    self.assertTrue(told < bound or told == bound and cost >= best)

    def test_where_rooms_save_ever_less_the_bound_is_the_fewest(self):
        plain, gaps = 0, 0
        for seed in range(600):
            many = 1 + seed % 3
            traces = drawn_traces(seed, many, 16)
            ever_less = all(saves_ever_less(trace) for trace in traces)
            for frames in range(many, many + 8):
                fewest = deal_faults(traces, deal(traces, frames))
                bound = price(traces, frames)[1]
                self.assertLessEqual(bound, fewest)
                if ever_less:
                    self.assertEqual(bound, fewest, (seed, frames))
                    plain += 1
                gaps += bound < fewest
        self.assertGreater(plain, 100)
        self.assertGreater(gaps, 0)

    def test_a_bound_below_the_fewest(self):
        # The second room saves nothing and the third one nine: a frame too few costs nine faults more
        # than the six of all pages, but no price shows more than four of them.
        self.assertEqual(deal_faults([ROUND, ROUND], deal([ROUND, ROUND], 5)), 15)
        self.assertEqual(price([ROUND, ROUND], 5), (4, 10))


class TestRefusals(unittest.TestCase):
    def refused(self, kind, what, asks):
        for told in asks:
            with self.assertRaises(PageError) as seen:
                told()
            self.assertEqual((seen.exception.__class__, seen.exception.what), (kind, what))

    def of(self, traces, frames, cost=0):
        return (
            lambda: deal(traces, frames),
            lambda: price_bound(traces, frames, cost),
            lambda: price(traces, frames),
        )

    def test_no_task(self):
        for frames in (1, 0, -1, 300):
            self.refused(NoTask, None, self.of([], frames))
        self.refused(NoTask, None, [lambda: deal_faults([], [])])

    def test_no_room(self):
        for frames in (2, 1, 0, -1, -10 ** 5000):
            self.refused(NoRoom, frames, self.of(THREE, frames))
        for frames in (0, -1):
            self.refused(NoRoom, frames, self.of([[]], frames))

    def test_no_price(self):
        for cost in (-1, -10 ** 59, -10 ** 5000):
            self.refused(NoRoom, cost, [lambda: price_bound(THREE, 3, cost)])
            self.refused(NoRoom, cost, [lambda: price_bound([[]], 1, cost)])

    def test_order(self):
        self.refused(NoTask, None, self.of([], 0, -1))
        self.refused(NoRoom, 2, self.of(THREE, 2, -1))
        self.refused(NoTask, None, self.of([], 5, -1))

    def test_just_enough(self):
        self.assertEqual(deal(THREE, 3), [1, 1, 1])
        self.assertEqual(price_bound(THREE, 3, 0), 3 + 2 + 1)
        self.assertEqual(price(THREE, 3), (5, 17))

    def test_what_is_refused_changes_nothing(self):
        traces = copy.deepcopy(THREE)
        self.refused(NoRoom, 2, self.of(traces, 2))
        self.refused(NoRoom, -1, [lambda: price_bound(traces, 3, -1)])
        self.assertEqual(traces, THREE)


class TestAsking(unittest.TestCase):
    def test_by_place_and_by_name(self):
        for told in (deal, price):
            self.assertEqual(told(frames=5, traces=THREE), told(THREE, 5))
            self.assertEqual(told(THREE, frames=5), told(THREE, 5))
        self.assertEqual(deal_faults(rooms=[3, 1, 1], traces=THREE), 8)
        self.assertEqual(deal_faults(THREE, rooms=[3, 1, 1]), 8)
        self.assertEqual(price_bound(price=2, frames=5, traces=THREE), price_bound(THREE, 5, 2))
        self.assertEqual(price_bound(THREE, 5, price=2), price_bound(THREE, 5, 2))

    def test_kinds(self):
        self.assertIs(deal(THREE, 5).__class__, list)
        self.assertEqual({room.__class__ for room in deal(THREE, 5)}, {int})
        self.assertIs(deal_faults(THREE, [1, 1, 1]).__class__, int)
        self.assertIs(price_bound(THREE, 5, 2).__class__, int)
        self.assertIs(price(THREE, 5).__class__, tuple)
        self.assertEqual([one.__class__ for one in price(THREE, 5)], [int, int])

    def test_what_is_handed_in_stays(self):
        traces, rooms = copy.deepcopy(THREE), [3, 1, 1]
        deal(traces, 5)
        deal_faults(traces, rooms)
        price_bound(traces, 5, 2)
        price(traces, 5)
        self.assertEqual((traces, rooms), (THREE, [3, 1, 1]))

    def test_told_lists_are_the_askers_own(self):
        kept = deal(THREE, 5)
        deal(THREE, 5).append(9)
        deal(THREE, 5).clear()
        self.assertEqual(deal(THREE, 5), kept)

    def test_changed_traces_change_nothing_told(self):
        traces = copy.deepcopy(THREE)
        told = deal(traces, 5)
        for trace in traces:
            trace.clear()
        traces.clear()
        self.assertEqual(told, [3, 1, 1])

    def test_one_trace_several_times(self):
        trace = list(ROUND)
        self.assertEqual(deal([trace, trace, trace], 7), [1, 3, 3])
        self.assertEqual(trace, ROUND)


class TestGreatest(unittest.TestCase):
    def greatest(self):
        draw = random.Random(4)
        return [
            [list(range(200)) for _ in range(6)],
            [[page % 100 for page in range(200)] for _ in range(6)],
            [[page % (20 + 16 * job) for page in range(200)] for job in range(6)],
            [[10 ** 9 - page for page in mixed_trace(200, 30 * job + 5, job)] for job in range(6)],
            [[draw.randrange(60) for _ in range(200)] for _ in range(6)],
            [[0] * 200 for _ in range(6)],
            [[] for _ in range(6)],
        ]

    def test_three_hundred_frames(self):
        for traces in self.greatest():
            for frames in (6, 7, 64, 299, 300):
                told = deal(traces, frames)
                best = best_deal_from_the_front(traces, frames)
                self.assertEqual((deal_faults(traces, told), told), best)
                best, bound = price(traces, frames)
                self.assertEqual(price_bound(traces, frames, best), bound)
                self.assertLessEqual(bound, deal_faults(traces, told))

    def test_prices(self):
        for traces in self.greatest():
            for frames in (6, 50, 300):
                self.assertEqual(price(traces, frames), plain_price(traces, frames))

    def test_prices_of_sixty_figures(self):
        for traces in self.greatest():
            ones = deal_faults(traces, [1] * 6)
            for cost in (10 ** 59, 10 ** 60 - 1):
                for frames in (6, 300):
                    self.assertEqual(price_bound(traces, frames, cost), ones - cost * (frames - 6))

    def test_rooms_of_three_hundred(self):
        for traces in self.greatest():
            unlike = sum(len(set(trace)) for trace in traces)
            self.assertEqual(deal_faults(traces, [300] * 6), unlike)

    def test_somewhat_beyond(self):
        traces = [mixed_trace(260, 40 + job, job) for job in range(8)]
        for frames in (8, 320, 10 ** 60):
            told = deal(traces, frames)
            self.assertLessEqual(sum(told), frames)
            self.assertLessEqual(price(traces, frames)[1], deal_faults(traces, told))


if __name__ == "__main__":
    unittest.main()
