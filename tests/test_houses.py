"""[18], [19], and [2], [3] and [4] as far as they speak of houses."""

import inspect
import random
import unittest

from pagerooms.errors import NoColour, NoPage, NoRoom, NoTask, NoWindow, NoWord, PageError
from pagerooms.houses import House
from pagerooms.memories import Memory
from pagerooms.working import window_walk, working
from tests.plain import count_faults
from tests.plain_house import PlainHouse, ask, drawn_house, drawn_requests, state

GREATEST = [(100, 30, 64)] * 6


def three_small():
    """Three tasks of windows of one, so each holds one page at most."""
    return [(3, 1, 1)] * 3


class TestRequests(unittest.TestCase):
    def test_at_first(self):
        house = House([(4, 2, 2), (4, 2, 1)], 3, colours=2)
        self.assertEqual(state(house, 2), ([None, None, None], [[0, 0], [0, 0]], 0))

    def test_told(self):
        house = House([(4, 2, 2), (4, 2, 2)], 3, colours=2)
        self.assertEqual(house.write(0, 0, 0, 5), (5, "own", 0))
        self.assertEqual(house.read(0, 1, 0), (0, "own", 1))
        self.assertEqual(house.read(1, 0, 0), (0, "own", 2))
        self.assertEqual(house.read(0, 0, 0), (5, "hit", 0))
        self.assertEqual(state(house, 2), ([(0, 0), (0, 1), (1, 0)], [[1, 1], [1, 0]], 0))
        # No frame is free for page 1 of task 1: task 0 is put off, and its page 0 is written back.
        self.assertEqual(house.read(1, 1, 1), (0, "own", 1))
        self.assertEqual(state(house, 2), ([None, (1, 1), (1, 0)], [[0, 0], [1, 1]], 1))
        self.assertEqual(house.read(0, 0, 0), (5, "back", 0))
        self.assertEqual(state(house, 2), ([(0, 0), (1, 1), (1, 0)], [[1, 0], [1, 1]], 1))

    def test_a_write_tells_what_was_written(self):
        house = House([(2, 2, 1)], 1)
        for worth in (7, 0, -3, 10 ** 60, -10 ** 60):
            self.assertEqual(house.write(0, 1, 1, worth)[0], worth)
            self.assertEqual(house.read(0, 1, 0)[0], 0)
            self.assertEqual(house.read(0, 1, 1)[0], worth)

    def test_pages_are_each_tasks_own(self):
        house = House([(2, 1, 2), (2, 1, 2)], 4)
        house.write(0, 1, 0, 5)
        self.assertEqual(house.read(1, 1, 0), (0, "own", 1))
        house.write(1, 1, 0, 6)
        self.assertEqual((house.read(0, 1, 0)[0], house.read(1, 1, 0)[0]), (5, 6))
        self.assertEqual(house.frames(), [(0, 1), (1, 1), None, None])

    def test_each_house_is_its_own(self):
        tasks = [(2, 1, 1)]
        one, other = House(tasks, 2), House(tasks, 2)
        one.write(0, 0, 0, 5)
        self.assertEqual(state(other, 1), ([None, None], [[0]], 0))
        self.assertEqual(other.read(0, 0, 0), (0, "own", 0))


class TestWork(unittest.TestCase):
    def test_pages_that_work_no_more_leave(self):
        house = House([(5, 1, 2)], 4)
        for page, frames in (
            (0, [(0, 0), None, None, None]),
            (1, [(0, 0), (0, 1), None, None]),
            # Page 0 left ahead of the coming of page 2, so its frame is the least that is free.
            (2, [(0, 2), (0, 1), None, None]),
            (2, [(0, 2), None, None, None]),
            (0, [(0, 2), (0, 0), None, None]),
        ):
            house.read(0, page, 0)
            self.assertEqual(house.frames(), frames)

    def test_by_the_tasks_own_requests(self):
        house = House([(3, 1, 2), (3, 1, 1)], 4)
        house.read(0, 0, 0)
        for page in (0, 1, 2, 0, 1):
            house.read(1, page, 0)
        self.assertEqual(house.frames()[0], (0, 0))
        self.assertEqual(house.read(0, 0, 0), (0, "hit", 0))

    def test_a_window_of_one(self):
        house = House([(3, 1, 1)], 1)
        told = [house.read(0, page, 0) for page in (2, 2, 0, 2)]
        self.assertEqual(told, [(0, "own", 0), (0, "hit", 0), (0, "own", 0), (0, "own", 0)])

    def test_leaving_pages_are_written_back_where_soiled(self):
        house = House([(3, 1, 1)], 1)
        house.read(0, 0, 0)
        house.write(0, 1, 0, 0)
        self.assertEqual(house.written(), 0)
        house.read(0, 2, 0)
        self.assertEqual(house.written(), 1)
        house.read(0, 1, 0)
        house.read(0, 2, 0)
        self.assertEqual(house.written(), 1)

    def test_each_writing_back_counts(self):
        house = House([(3, 1, 1)], 1)
        for many in range(5):
            house.write(0, 0, 0, many)
            house.write(0, 0, 0, many)
            self.assertEqual(house.written(), many)
            self.assertEqual(house.read(0, 1, 0)[0], 0)
            self.assertEqual(house.written(), many + 1)

    def test_all_soiled_pages_of_a_task_that_is_put_off_are_written_back(self):
        house = House([(4, 1, 3), (4, 1, 1)], 3)
        house.write(0, 0, 0, 7)
        house.read(0, 1, 0)
        house.write(0, 2, 0, 8)
        house.read(1, 0, 0)
        self.assertEqual(state(house, 2), ([(1, 0), None, None], [[0], [1]], 2))
        self.assertEqual([house.read(0, page, 0) for page in (2, 0)], [(8, "back", 1), (7, "own", 2)])

    def test_own_and_back(self):
        house = House([(4, 1, 3), (4, 1, 3)], 3)
        for page in (0, 1, 2):
            house.read(0, page, 0)
        house.read(1, 0, 0)
        self.assertEqual(house.frames(), [(1, 0), None, None])
        # Behind the request ahead 0, 1 and 2 worked; of these 0 still does behind its own request.
        self.assertEqual([house.read(0, page, 0)[1] for page in (0, 0, 2, 3)], ["back", "hit", "back", "own"])

    def test_a_page_that_worked_no_more_while_its_task_was_off_is_own(self):
        house = House([(4, 1, 2), (4, 1, 2)], 2)
        house.read(0, 0, 0)
        house.read(0, 1, 0)
        house.read(1, 0, 0)
        self.assertEqual([house.read(0, page, 0)[1] for page in (2, 3, 0)], ["own", "own", "own"])


class TestPutOff(unittest.TestCase):
    def test_the_task_that_asked_longest_ago(self):
        house = House(three_small(), 2)
        house.read(0, 0, 0)
        house.read(1, 0, 0)
        house.read(0, 0, 0)
        self.assertEqual(house.read(2, 0, 0), (0, "own", 1))
        self.assertEqual(house.frames(), [(0, 0), (2, 0)])

    def test_only_those_that_hold_pages(self):
        house = House(three_small(), 1)
        self.assertEqual([house.read(task, 0, 0)[1] for task in (0, 1, 2, 1)], ["own", "own", "own", "back"])
        self.assertEqual(house.frames(), [(1, 0)])

    def test_other_than_the_one_that_asks(self):
        house = House([(4, 1, 2), (4, 1, 2)], 2)
        house.read(0, 0, 0)
        house.read(1, 0, 0)
        # Task 0 asked longest ago, but it is the one that asks.
        house.read(0, 1, 0)
        self.assertEqual(house.frames(), [(0, 0), (0, 1)])

    def test_one_task_is_enough(self):
        house = House([(4, 1, 1)] * 4, 3)
        for task in (2, 0, 1, 3):
            house.read(task, 0, 0)
        self.assertEqual(house.frames(), [(3, 0), (0, 0), (1, 0)])

    def test_none_where_a_page_of_its_own_leaves(self):
        house = House([(4, 1, 1), (4, 1, 1)], 2)
        house.read(0, 0, 0)
        house.read(1, 0, 0)
        house.read(0, 1, 0)
        self.assertEqual(house.frames(), [(0, 1), (1, 0)])

    def test_none_for_a_hit(self):
        house = House([(4, 1, 1), (4, 1, 1)], 2)
        for task in (0, 1, 0, 1):
            house.read(task, 0, 0)
        self.assertEqual(house.frames(), [(0, 0), (1, 0)])

    def test_a_request_that_is_refused_is_no_asking(self):
        house = House(three_small(), 2)
        house.read(0, 0, 0)
        house.read(1, 0, 0)
        for page, word in ((3, 0), (-1, 0), (0, 1), (0, -1)):
            with self.assertRaises(PageError):
                house.read(0, page, word)
        house.read(2, 0, 0)
        self.assertEqual(house.frames(), [(2, 0), (1, 0)])


class TestColours(unittest.TestCase):
    def test_one_colour_where_it_is_left_out(self):
        house = House([(5, 1, 3)], 4)
        self.assertEqual([house.read(0, page, 0)[2] for page in range(3)], [0, 1, 2])
        self.assertEqual(house.shares(0), [3])

    def test_frames_of_even_shares(self):
        house = House([(5, 1, 3), (5, 1, 3)], 6, colours=2)
        self.assertEqual([house.read(0, page, 0)[2] for page in range(3)], [0, 1, 2])
        self.assertEqual([house.read(1, page, 0)[2] for page in range(3)], [4, 3, 5])
        self.assertEqual((house.shares(0), house.shares(1)), ([2, 1], [1, 2]))

    def test_the_least_share_then_the_least_frame(self):
        house = House([(9, 1, 4)], 9, colours=3)
        self.assertEqual([house.read(0, page, 0)[2] for page in range(4)], [0, 1, 2, 3])
        # Page 0 leaves frame 0; the shares are 1 each, so the least colour and its least frame are taken.
        self.assertEqual(house.read(0, 4, 0)[2], 0)
        # Page 1 leaves frame 1, the only one of its colour.
        self.assertEqual(house.read(0, 5, 0)[2], 1)

    def test_shares_of_the_one_that_asks_count(self):
        house = House([(9, 1, 2), (9, 1, 2)], 8, colours=4)
        self.assertEqual([house.read(task, page, 0)[2] for page in (0, 1) for task in (0, 1)], [0, 4, 1, 5])
        self.assertEqual((house.shares(0), house.shares(1)), ([1, 1, 0, 0], [1, 1, 0, 0]))

    def test_more_colours_than_frames(self):
        house = House([(5, 1, 3)], 3, colours=8)
        self.assertEqual([house.read(0, page, 0)[2] for page in range(3)], [0, 1, 2])
        self.assertEqual(house.shares(0), [1, 1, 1, 0, 0, 0, 0, 0])

    def test_what_was_freed_by_putting_off_is_free(self):
        house = House([(5, 1, 2), (5, 1, 2)], 2, colours=2)
        house.read(0, 0, 0)
        house.read(1, 0, 0)
        self.assertEqual(house.frames(), [(0, 0), (1, 0)])
        self.assertEqual(house.read(1, 1, 0)[2], 0)


class TestDrawn(unittest.TestCase):
    def test_against_the_words_of_the_document(self):
        seen = set()
        for seed in range(250):
            tasks, frames, colours = drawn_house(seed)
            house, plain = House(tasks, frames, colours=colours), PlainHouse(tasks, frames, colours)
            for request in drawn_requests(seed, tasks, 70):
                told = ask(house, *request)
                self.assertEqual(told, plain.request(*request), seed)
                self.assertEqual(state(house, len(tasks)), plain.state(), seed)
                seen.add(told[1])
        self.assertEqual(seen, {"hit", "own", "back"})

    def test_each_read_is_that_of_a_memory_alone(self):
        for seed in range(60):
            tasks, frames, colours = drawn_house(seed)
            house = House(tasks, frames, colours=colours)
            alone = [Memory(pages, words, 1 + seed % 3) for pages, words, _ in tasks]
            for task, page, word, worth in drawn_requests(seed + 500, tasks, 100):
                told = ask(house, task, page, word, worth)[0]
                if worth is None:
                    self.assertEqual(told, alone[task].read(page, word))
                else:
                    alone[task].write(page, word, worth)

    def test_own_faults_are_those_of_the_window_and_back_ones_at_most_what_was_lost(self):
        backs = 0
        for seed in range(120):
            tasks, frames, colours = drawn_house(seed)
            house, plain = House(tasks, frames, colours=colours), PlainHouse(tasks, frames, colours)
            words = [[] for _ in tasks]
            for request in drawn_requests(seed + 900, tasks, 80):
                plain.request(*request)
                words[request[0]].append(ask(house, *request)[1])
            for task, (_, _, window) in enumerate(tasks):
                own = count_faults(window_walk(plain.pages_of(task), window))
                self.assertEqual(words[task].count("own"), own)
                self.assertLessEqual(words[task].count("back"), plain.lost[task])
                backs += words[task].count("back")
        self.assertGreater(backs, 0)

    def test_pages_that_work_go_only_with_all_of_their_tasks(self):
        for seed in range(120):
            tasks, frames, colours = drawn_house(seed)
            house = House(tasks, frames, colours=colours)
            asked = [[] for _ in tasks]
            for request in drawn_requests(seed, tasks, 80):
                before = house.frames()
                ask(house, *request)
                asked[request[0]].append(request[1])
                self.compare_frames(tasks, request[0], asked[request[0]], before, house.frames())

    def compare_frames(self, tasks, asker, asked, before, after):
        works = working(asked, tasks[asker][2])[-1]
        # No page of the one that asks leaves while it works, and none stays in another frame.
        for frame, holder in enumerate(before):
            if holder is not None and holder[0] == asker:
                self.assertEqual(holder in after, holder[1] in works)
                self.assertTrue(holder not in after or after[frame] == holder)
        self.assertIn((asker, asked[-1]), after)
        put_off = []
        for other in range(len(tasks)):
            ahead, behind = [[holder for holder in told if holder and holder[0] == other] for told in (before, after)]
            if other != asker and ahead != behind:
                self.assertEqual(behind, [])
                put_off.append(other)
        self.assertLessEqual(len(put_off), 1)


class TestMadeRefusals(unittest.TestCase):
    def refused(self, kind, what, tasks, frames, colours):
        given = list(tasks)
        with self.assertRaises(PageError) as seen:
            House(tasks, frames, colours=colours)
        self.assertEqual((seen.exception.__class__, seen.exception.what), (kind, what))
        self.assertEqual(tasks, given)

    def test_no_task(self):
        self.refused(NoTask, None, [], 1, 1)

    def test_no_page_no_word_no_window(self):
        for low in (0, -1, -10 ** 5000):
            for at, kind in enumerate((NoPage, NoWord, NoWindow)):
                bad = tuple(low if place == at else 2 for place in range(3))
                self.refused(kind, 0, [bad], 5, 1)
                self.refused(kind, 2, [(1, 1, 1), (2, 2, 2), bad, bad], 5, 1)

    def test_no_colour(self):
        for colours in (0, -1, -8, -10 ** 5000):
            self.refused(NoColour, colours, [(1, 1, 1)], 5, colours)

    def test_no_room(self):
        for frames in (3, 1, 0, -1, -10 ** 5000):
            self.refused(NoRoom, frames, [(1, 1, 2), (1, 1, 4), (1, 1, 3)], frames, 2)
        self.refused(NoRoom, 0, [(1, 1, 1)], 0, 1)

    def test_order(self):
        self.refused(NoTask, None, [], 0, 0)
        self.refused(NoPage, 0, [(0, 0, 0)], 0, 0)
        self.refused(NoWord, 0, [(1, 0, 0)], 0, 0)
        self.refused(NoWindow, 0, [(1, 1, 0)], 0, 0)
        self.refused(NoColour, 0, [(1, 1, 1)], 0, 0)
        self.refused(NoRoom, 0, [(1, 1, 1)], 0, 1)

    def test_task_by_task(self):
        self.refused(NoWindow, 0, [(1, 1, 0), (0, 0, 0)], 9, 1)
        self.refused(NoWord, 1, [(1, 1, 1), (1, 0, 1), (0, 1, 1)], 9, 1)
        self.refused(NoPage, 1, [(1, 1, 9), (0, 1, 1)], 1, 0)

    def test_with_the_colours_left_out(self):
        with self.assertRaises(NoRoom) as seen:
            House([(1, 1, 3)], 2)
        self.assertEqual(seen.exception.what, 2)

    def test_one_of_each_is_enough(self):
        self.assertEqual(House([(1, 1, 1)], 1, colours=1).read(0, 0, 0), (0, "own", 0))
        self.assertEqual(House([(1, 1, 5), (1, 1, 1)], 5).read(0, 0, 0), (0, "own", 0))


class TestRequestRefusals(unittest.TestCase):
    def refused(self, house, kind, what, task, page, word):
        for told in (lambda: house.read(task, page, word), lambda: house.write(task, page, word, 99)):
            with self.assertRaises(PageError) as seen:
                told()
            self.assertEqual((seen.exception.__class__, seen.exception.what), (kind, what))

    def made(self):
        return House([(3, 2, 1), (5, 4, 2)], 2)

    def test_no_task(self):
        for task in (-1, -2, 2, 3, 10 ** 60, -10 ** 5000):
            self.refused(self.made(), NoTask, task, task, 0, 0)
            with self.assertRaises(PageError) as seen:
                self.made().shares(task)
            self.assertEqual((seen.exception.__class__, seen.exception.what), (NoTask, task))

    def test_no_page(self):
        for page in (-1, 3, 4, 10 ** 60, -10 ** 5000):
            self.refused(self.made(), NoPage, page, 0, page, 0)
        self.refused(self.made(), NoPage, 5, 1, 5, 0)

    def test_no_word(self):
        for word in (-1, 2, 3, 10 ** 60, -10 ** 5000):
            self.refused(self.made(), NoWord, word, 0, 0, word)
        self.refused(self.made(), NoWord, 4, 1, 0, 4)

    def test_order(self):
        self.refused(self.made(), NoTask, 2, 2, -1, -1)
        self.refused(self.made(), NoTask, -1, -1, 9, 0)
        self.refused(self.made(), NoTask, -1, -1, 0, 9)
        self.refused(self.made(), NoPage, 3, 0, 3, 2)

    def test_the_greatest_are_there(self):
        house = self.made()
        house.write(1, 4, 3, 8)
        house.write(0, 2, 1, 9)
        self.assertEqual((house.read(1, 4, 3)[0], house.read(0, 2, 1)[0]), (8, 9))

    def test_what_is_refused_changes_nothing(self):
        for seed in range(20):
            draw = random.Random(seed)
            tasks, frames, colours = drawn_house(seed)
            many = len(tasks)
            house, plain = House(tasks, frames, colours=colours), House(tasks, frames, colours=colours)
            for request in drawn_requests(seed, tasks, 60):
                before = state(house, many)
                task = draw.randrange(many)
                pages, words, _ = tasks[task]
                self.refused(house, NoTask, many, many, 0, 0)
                self.refused(house, NoPage, pages, task, pages, 0)
                self.refused(house, NoWord, words, task, draw.randrange(pages), words)
                self.refused(house, NoWord, -1, request[0], request[1], -1)
                self.assertEqual(state(house, many), before)
                self.assertEqual(ask(house, *request), ask(plain, *request))
                self.assertEqual(state(house, many), state(plain, many))


class TestAsking(unittest.TestCase):
    def test_made_by_place_and_by_name(self):
        for house in (
            House([(3, 2, 2)], 2, colours=2),
            House([(3, 2, 2)], frames=2, colours=2),
            House(colours=2, frames=2, tasks=[(3, 2, 2)]),
        ):
            house.read(0, 2, 1)
            self.assertEqual(state(house, 1), ([(0, 2), None], [[1, 0]], 0))

    def test_colours_by_their_name_alone(self):
        with self.assertRaises(TypeError):
            House([(3, 2, 2)], 2, 1)

    def test_requests_by_name(self):
        house = House([(3, 2, 2), (3, 2, 2)], 2)
        self.assertEqual(house.write(worth=5, word=1, page=2, task=1), (5, "own", 0))
        self.assertEqual(house.read(word=1, page=2, task=1), (5, "hit", 0))
        self.assertEqual(house.write(1, 2, 0, worth=6), (6, "hit", 0))
        self.assertEqual(house.read(1, 2, word=0), (6, "hit", 0))
        self.assertEqual(house.shares(task=1), [1])

    def test_the_interface_stands_in_the_class(self):
        wanted = {
            "read": ["task", "page", "word"], "write": ["task", "page", "word", "worth"],
            "frames": [], "shares": ["task"], "written": [],
        }
        for name, arguments in wanted.items():
            self.assertEqual(list(inspect.signature(vars(House)[name]).parameters)[1:], arguments)

    def test_kinds(self):
        house = House([(3, 2, 1)], 2, colours=2)
        for told in (house.write(0, 0, 0, 5), house.read(0, 1, 0), house.read(0, 1, 1)):
            self.assertIs(told.__class__, tuple)
            self.assertEqual([one.__class__ for one in told], [int, str, int])
        self.assertIs(house.frames().__class__, list)
        self.assertEqual([one.__class__ for one in house.frames()], [tuple, None.__class__])
        self.assertIs(house.shares(0).__class__, list)
        self.assertEqual([one.__class__ for one in house.shares(0)], [int, int])
        self.assertIs(house.written().__class__, int)

    def test_what_is_handed_in_stays(self):
        tasks = [(3, 2, 2), (2, 1, 1)]
        house = House(tasks, 2)
        for task, page in ((0, 2), (1, 1), (0, 0)):
            house.write(task, page, 0, 1)
        self.assertEqual(tasks, [(3, 2, 2), (2, 1, 1)])

    def test_changed_tasks_change_nothing(self):
        tasks = [(3, 2, 2), (2, 1, 1)]
        house, plain = House(tasks, 2), House(list(tasks), 2)
        tasks[0] = (9, 9, 1)
        tasks.pop()
        for told in (house, plain):
            told.read(0, 2, 1)
            told.read(0, 1, 1)
            told.read(1, 1, 0)
            with self.assertRaises(NoPage):
                told.read(0, 3, 0)
        self.assertEqual(state(house, 2), state(plain, 2))

    def test_told_lists_are_the_askers_own(self):
        house = House([(3, 2, 2)], 2, colours=2)
        house.read(0, 1, 0)
        kept = house.frames(), house.shares(0)
        house.frames().clear()
        house.frames()[1] = (0, 1)
        house.shares(0).clear()
        house.shares(0)[0] = 9
        self.assertEqual((house.frames(), house.shares(0)), kept)
        self.assertEqual(house.read(0, 2, 0), (0, "own", 1))

    def test_nothing_asked_later_changes_a_told_list(self):
        house = House([(3, 2, 2)], 2, colours=2)
        told = house.frames(), house.shares(0)
        house.read(0, 1, 0)
        self.assertEqual(told, ([None, None], [0, 0]))

    def test_asking_is_no_request(self):
        house = House(three_small(), 2)
        house.read(0, 0, 0)
        house.read(1, 0, 0)
        for _ in range(3):
            self.assertEqual(state(house, 3), ([(0, 0), (1, 0)], [[1], [1], [0]], 0))
        house.read(2, 0, 0)
        self.assertEqual(house.frames(), [(2, 0), (1, 0)])


class TestGreatest(unittest.TestCase):
    def compare(self, tasks, frames, colours, requests):
        house, plain = House(tasks, frames, colours=colours), PlainHouse(tasks, frames, colours)
        for request in requests:
            self.assertEqual(ask(house, *request), plain.request(*request))
            self.assertEqual(house.frames(), plain.state()[0])
        self.assertEqual(state(house, len(tasks)), plain.state())

    def test_six_tasks_sixty_four_frames_of_eight_colours(self):
        for seed in range(3):
            for colours in (1, 5, 8):
                self.compare(GREATEST, 64, colours, drawn_requests(seed, GREATEST, 300))

    def test_pages_one_behind_the_other(self):
        requests = [(at % 6, at * 7 % 100, at % 30, at if at % 2 else None) for at in range(300)]
        self.compare(GREATEST, 64, 8, requests)
        requests = [(at // 100, at % 100, 29, 10 ** 60 - at) for at in range(300)]
        self.compare(GREATEST, 64, 8, requests)

    def test_windows_of_many_sizes(self):
        tasks = [(100, 30, window) for window in (1, 2, 16, 31, 63, 64)]
        for seed in range(3):
            self.compare(tasks, 64, 8, drawn_requests(seed, tasks, 300))

    def test_few_pages_asked_for_often(self):
        tasks = [(4, 30, 64)] * 6
        for frames in (64, 65):
            self.compare(tasks, frames, 8, drawn_requests(7, tasks, 300))

    def test_somewhat_beyond(self):
        tasks = [(10 ** 12, 10 ** 12, 70)] * 8
        house = House(tasks, 90, colours=20)
        for page in range(400):
            house.write(page % 8, page * 10 ** 9, page, 10 ** 100 + page)
        self.assertEqual(house.read(1, 9 * 10 ** 9, 9)[0], 10 ** 100 + 9)
        self.assertEqual(sum(sum(house.shares(task)) for task in range(8)), 90 - house.frames().count(None))


if __name__ == "__main__":
    unittest.main()
