"""[16], [17], and [2] and [3] as far as they speak of colours."""

import itertools
import random
import unittest

from pagerooms.colours import take, wall
from pagerooms.errors import NoColour, NoRoom, PageError
from tests.plain_house import all_takings, height, plain_take


def drawn_colours(seed, most):
    """(shares, free) of up to eight colours."""
    draw = random.Random(seed)
    many = draw.randrange(1, 9)
    return [draw.randrange(most) for _ in range(many)], [draw.choice([0, draw.randrange(most)]) for _ in range(many)]


class TestTake(unittest.TestCase):
    def test_none(self):
        self.assertEqual(take([0], [0], 0), [])
        self.assertEqual(take([3, 1], [0, 7], 0), [])

    def test_one_colour(self):
        self.assertEqual(take([5], [3], 3), [0, 0, 0])

    def test_the_least_share_goes_first(self):
        self.assertEqual(take([2, 0, 1], [9, 9, 9], 1), [1])
        self.assertEqual(take([2, 1, 0], [9, 9, 9], 1), [2])

    def test_of_several_the_least(self):
        self.assertEqual(take([1, 0, 0], [9, 9, 9], 1), [1])
        self.assertEqual(take([0, 0, 0], [9, 9, 9], 7), [0, 1, 2, 0, 1, 2, 0])

    def test_what_is_taken_counts(self):
        self.assertEqual(take([3, 0, 1], [9, 9, 9], 7), [1, 1, 2, 1, 2, 0, 1])

    def test_only_colours_with_a_free_one_left(self):
        self.assertEqual(take([0, 5], [0, 2], 2), [1, 1])
        self.assertEqual(take([0, 5, 2], [2, 2, 1], 5), [0, 0, 2, 1, 1])

    def test_all_that_are_free(self):
        self.assertEqual(take([0, 0], [2, 1], 3), [0, 1, 0])

    def test_against_the_words_of_the_document(self):
        for shares in itertools.product(range(3), repeat=3):
            for free in itertools.product(range(3), repeat=3):
                for many in range(sum(free) + 1):
                    told = take(list(shares), list(free), many)
                    self.assertEqual(told, plain_take(shares, free, many), (shares, free, many))

    def test_drawn(self):
        for seed in range(200):
            shares, free = drawn_colours(seed, 9)
            for many in range(sum(free) + 1):
                told = take(shares, free, many)
                self.assertEqual(told, plain_take(shares, free, many))
                self.assertEqual(told, take(shares, free, sum(free))[:many])


class TestWall(unittest.TestCase):
    def test_none_wanted(self):
        for shares, free in (([0], [0]), ([4], [4]), ([2, 0], [0, 3]), ([1, 1, 1], [5, 5, 5])):
            self.assertEqual(wall(shares, free, 0), (0, 0))

    def test_told(self):
        self.assertEqual(wall([0], [5], 1), (1, 0))
        self.assertEqual(wall([0], [5], 3), (3, 2))
        self.assertEqual(wall([4], [5], 1), (5, 0))
        self.assertEqual(wall([0, 0], [5, 5], 3), (2, 2))
        self.assertEqual(wall([0, 0], [5, 5], 4), (2, 2))

    def test_only_colours_of_which_some_are_taken_count(self):
        self.assertEqual(wall([9, 0], [5, 5], 2), (2, 1))

    def test_shares_above_give_none(self):
        # Of height 2 the first colour gives none, for its share is 7; the second has but one free.
        self.assertEqual(wall([7, 1, 0], [5, 1, 4], 4), (3, 3))

    def test_the_free_ones_limit(self):
        self.assertEqual(wall([0, 4], [1, 9], 3), (6, 2))

    def test_against_all_takings(self):
        for shares in itertools.product(range(3), repeat=3):
            for free in itertools.product(range(3), repeat=3):
                self.compare(list(shares), list(free))

    def test_drawn(self):
        for seed in range(150):
            draw = random.Random(seed)
            many = draw.randrange(1, 5)
            self.compare([draw.randrange(6) for _ in range(many)], [draw.randrange(5) for _ in range(many)])

    def compare(self, shares, free):
        takings = [all_takings(free, many) for many in range(sum(free) + 1)]
        for many, ways in enumerate(takings):
            m, n = wall(shares, free, many)
            taken = take(shares, free, many)
            counts = [taken.count(colour) for colour in range(len(free))]
            self.assertEqual(m, height(shares, counts))
            # No taking of as many has a lesser height.
            self.assertEqual(m, min(height(shares, way) for way in ways), (shares, free, many))
            if many == 0:
                self.assertEqual((m, n), (0, 0))
                continue
            self.assertLess(n, many)
            lower = [size for size, some in enumerate(takings) if any(height(shares, way) < m for way in some)]
            self.assertEqual(n, max(lower), (shares, free, many))


class TestRefusals(unittest.TestCase):
    def refused(self, kind, what, shares, free, many):
        given = list(shares), list(free)
        for told in (take, wall):
            with self.assertRaises(PageError) as seen:
                told(shares, free, many)
            self.assertEqual((seen.exception.__class__, seen.exception.what), (kind, what))
        self.assertEqual((shares, free), given)

    def test_unlike_in_length(self):
        for shares, free in (([1], [1, 1]), ([1, 1], [1]), ([], [1]), ([1], []), ([0] * 8, [0] * 7)):
            self.refused(NoColour, None, shares, free, 0)
            self.refused(NoColour, None, shares, free, 1)

    def test_empty(self):
        self.refused(NoColour, None, [], [], 0)
        self.refused(NoColour, None, [], [], 1)

    def test_below_0(self):
        for many in (-1, -64, -10 ** 5000):
            self.refused(NoRoom, many, [0, 1], [5, 5], many)
            self.refused(NoRoom, many, [0], [0], many)

    def test_more_than_are_free(self):
        for many in (11, 12, 10 ** 60, 10 ** 5000):
            self.refused(NoRoom, many, [0, 1], [5, 5], many)
        self.refused(NoRoom, 1, [3, 4], [0, 0], 1)

    def test_just_enough(self):
        self.assertEqual(len(take([0, 1], [5, 5], 10)), 10)
        self.assertEqual(wall([0, 1], [5, 5], 10), (6, 9))

    def test_order(self):
        self.refused(NoColour, None, [1], [1, 1], -1)
        self.refused(NoColour, None, [1], [1, 1], 99)
        self.refused(NoColour, None, [], [], -1)
        self.refused(NoColour, None, [], [], 1)


class TestAsking(unittest.TestCase):
    def test_by_place_and_by_name(self):
        for told in (take, wall):
            wanted = told([3, 0, 1], [2, 2, 2], 4)
            self.assertEqual(told(many=4, free=[2, 2, 2], shares=[3, 0, 1]), wanted)
            self.assertEqual(told([3, 0, 1], [2, 2, 2], many=4), wanted)
            self.assertEqual(told([3, 0, 1], many=4, free=[2, 2, 2]), wanted)

    def test_kinds(self):
        told = take([0, 0], [2, 2], 3)
        self.assertIs(told.__class__, list)
        self.assertEqual({one.__class__ for one in told}, {int})
        for many in (0, 3):
            told = wall([0, 0], [2, 2], many)
            self.assertIs(told.__class__, tuple)
            self.assertEqual([one.__class__ for one in told], [int, int])

    def test_what_is_handed_in_stays(self):
        shares, free = [3, 0, 1], [2, 2, 2]
        for many in range(7):
            take(shares, free, many)
            wall(shares, free, many)
        self.assertEqual((shares, free), ([3, 0, 1], [2, 2, 2]))

    def test_one_list_for_both(self):
        both = [2, 1, 3]
        self.assertEqual(take(both, both, 6), plain_take([2, 1, 3], [2, 1, 3], 6))
        self.assertEqual(both, [2, 1, 3])

    def test_told_lists_are_the_askers_own(self):
        for many in (0, 4):
            kept = take([3, 0, 1], [2, 2, 2], many)
            take([3, 0, 1], [2, 2, 2], many).append(9)
            take([3, 0, 1], [2, 2, 2], many).clear()
            self.assertEqual(take([3, 0, 1], [2, 2, 2], many), kept)

    def test_changed_lists_change_nothing_told(self):
        shares, free = [3, 0, 1], [2, 2, 2]
        told = take(shares, free, 4)
        shares.clear()
        free.clear()
        self.assertEqual(told, [1, 1, 2, 2])


class TestGreatest(unittest.TestCase):
    def test_sixty_four_frames_of_eight_colours(self):
        cases = [([0] * 8, [8] * 8), ([8, 7, 6, 5, 4, 3, 2, 1], [8] * 8), ([64] + [0] * 7, [0] * 7 + [64])]
        cases += [([draw % 9 for draw in range(seed, seed + 8)], [8] * 8) for seed in range(9)]
        cases += [([0], [64]), ([64], [64])]
        for shares, free in cases:
            for many in (0, 1, 7, 8, 9, 33, 63, 64):
                told = take(shares, free, many)
                self.assertEqual(told, plain_take(shares, free, many))
                m, n = wall(shares, free, many)
                counts = [told.count(colour) for colour in range(len(shares))]
                self.assertEqual(m, height(shares, counts))
                self.assertEqual(n, sum(max(0, min(some, m - 1 - share)) for share, some in zip(shares, free)))
                self.assertTrue(n < many or many == n == 0)

    def test_somewhat_beyond(self):
        shares, free = [10 ** 60 + colour for colour in range(20)], [100] * 20
        self.assertEqual(take(shares, free, 3), [0, 0, 1])
        self.assertEqual(wall(shares, free, 3), (10 ** 60 + 2, 1))
        self.assertEqual(len(take([0] * 20, free, 2000)), 2000)


if __name__ == "__main__":
    unittest.main()
