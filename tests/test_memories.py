"""[10], and [2], [3] and [4] as far as they speak of memories."""

import inspect
import random
import unittest

from pagerooms.errors import NoPage, NoRoom, NoRule, NoWord, PageError
from pagerooms.memories import Memory
from pagerooms.walks import walk
from tests.plain_memory import ONLINE, drawn_requests, make_requests, plain_answers, plain_state, state


class TestWords(unittest.TestCase):
    def test_all_are_0_at_first(self):
        for rule in ONLINE:
            memory = Memory(3, 4, 2, rule=rule)
            for page in range(3):
                for word in range(4):
                    self.assertEqual(memory.read(page, word), 0)

    def test_what_was_written_is_read(self):
        for worth in (1, 0, -1, 10 ** 60, -10 ** 60):
            memory = Memory(2, 2, 1)
            memory.write(1, 1, worth)
            self.assertEqual(memory.read(1, 1), worth)
            self.assertEqual([memory.read(1, 0), memory.read(0, 1), memory.read(0, 0)], [0, 0, 0])
            self.assertEqual(memory.read(1, 1), worth)

    def test_the_last_write_of_a_word_counts(self):
        memory = Memory(2, 1, 1)
        for worth in (5, 6, -7):
            memory.write(0, 0, worth)
        self.assertEqual(memory.read(0, 0), -7)
        memory.write(0, 0, 0)
        memory.read(1, 0)
        self.assertEqual(memory.read(0, 0), 0)

    def test_words_come_back_from_the_disk(self):
        for rule in ONLINE:
            memory = Memory(3, 2, 1, rule=rule)
            memory.write(0, 0, 10)
            memory.write(1, 0, 11)
            memory.write(0, 1, 20)
            memory.write(2, 1, 21)
            self.assertEqual([memory.read(0, 0), memory.read(0, 1)], [10, 20])
            self.assertEqual([memory.read(1, 0), memory.read(1, 1), memory.read(2, 1)], [11, 0, 21])

    def test_a_write_tells_nothing(self):
        self.assertIsNone(Memory(1, 1, 1).write(0, 0, 3))

    def test_each_memory_is_its_own(self):
        one, other = Memory(2, 2, 1), Memory(2, 2, 1)
        one.write(0, 0, 5)
        one.read(1, 0)
        self.assertEqual(state(other), ([], [], [], 0))
        self.assertEqual(other.read(0, 0), 0)


class TestState(unittest.TestCase):
    def test_at_first(self):
        for rule in ONLINE:
            self.assertEqual(state(Memory(5, 5, 5, rule=rule)), ([], [], [], 0))

    def test_held_are_sorted(self):
        memory = Memory(9, 1, 3)
        for page in (8, 0, 4):
            memory.read(page, 0)
        self.assertEqual(memory.held(), [0, 4, 8])
        memory.read(1, 0)
        self.assertEqual(memory.held(), [0, 1, 4])

    def test_soiled_are_sorted_and_only_those_written_to(self):
        memory = Memory(9, 1, 4)
        memory.write(8, 0, 1)
        memory.read(5, 0)
        memory.write(2, 0, 1)
        self.assertEqual((memory.held(), memory.soiled()), ([2, 5, 8], [2, 8]))

    def test_soiled_whatever_was_written(self):
        memory = Memory(2, 1, 1)
        memory.write(0, 0, 0)
        self.assertEqual(memory.soiled(), [0])
        memory.read(1, 0)
        self.assertEqual((memory.soiled(), memory.written()), ([], 1))

    def test_reads_do_not_soil_and_do_not_clean(self):
        memory = Memory(2, 1, 2)
        memory.read(0, 0)
        self.assertEqual(memory.soiled(), [])
        memory.write(0, 0, 4)
        memory.read(0, 0)
        self.assertEqual(memory.soiled(), [0])

    def test_a_page_comes_in_clean(self):
        memory = Memory(2, 1, 1)
        memory.write(0, 0, 4)
        memory.read(1, 0)
        memory.read(0, 0)
        self.assertEqual((memory.held(), memory.soiled()), ([0], []))
        memory.read(1, 0)
        self.assertEqual(memory.written(), 1)

    def test_written_counts_each_writing_back(self):
        memory = Memory(2, 1, 1)
        for many in range(5):
            memory.write(0, 0, many)
            memory.write(0, 0, many + 1)
            self.assertEqual(memory.written(), many)
            memory.read(1, 0)
            self.assertEqual(memory.written(), many + 1)

    def test_pages_that_stay_are_not_written_back(self):
        memory = Memory(3, 1, 3)
        for page in (0, 1, 2, 0, 1):
            memory.write(page, 0, 7)
        self.assertEqual((memory.soiled(), memory.written()), ([0, 1, 2], 0))

    def test_asking_is_no_request(self):
        memory = Memory(3, 1, 2)
        memory.write(0, 0, 1)
        memory.read(1, 0)
        before = state(memory)
        for _ in range(3):
            self.assertEqual(state(memory), before)
        memory.read(2, 0)
        self.assertEqual(memory.walk()[-1], (2, "fault", 0))


class TestWalk(unittest.TestCase):
    def test_reads_and_writes_are_requests(self):
        memory = Memory(4, 1, 2)
        memory.read(1, 0)
        memory.write(2, 0, 5)
        memory.write(1, 0, 5)
        memory.read(3, 0)
        told = [(1, "fault", None), (2, "fault", None), (1, "hit", None), (3, "fault", 2)]
        self.assertEqual(memory.walk(), told)
        self.assertEqual((memory.held(), memory.soiled(), memory.written()), ([1, 3], [1], 1))

    def test_the_rules_differ(self):
        pages = [0, 1, 0, 2, 0, 1]
        walks = []
        for rule in ONLINE:
            memory = Memory(3, 1, 2, rule=rule)
            for page in pages:
                memory.read(page, 0)
            walks.append(memory.walk())
            self.assertEqual(memory.walk(), walk(pages, 2, rule=rule))
        self.assertNotEqual(walks[0], walks[1])

    def test_the_clock_differs_from_first(self):
        pages = [1, 2, 3, 4, 2, 5]
        for rule, gone in (("clock", 3), ("first", 2)):
            memory = Memory(6, 1, 3, rule=rule)
            for page in pages:
                memory.read(page, 0)
            self.assertEqual(memory.walk()[-1], (5, "fault", gone))

    def test_the_rule_left_out_is_last(self):
        memory = Memory(3, 1, 2)
        for page in (0, 1, 0, 2):
            memory.read(page, 0)
        self.assertEqual(memory.walk()[-1], (2, "fault", 1))

    def test_page_0_goes_as_any_other(self):
        memory = Memory(2, 1, 1)
        memory.write(0, 0, 9)
        memory.read(1, 0)
        self.assertEqual((memory.walk()[-1], memory.held(), memory.written()), ((1, "fault", 0), [1], 1))


class TestDrawn(unittest.TestCase):
    def test_against_the_words_of_the_document(self):
        for seed in range(60):
            pages, words = 1 + seed % 7, 1 + seed % 3
            requests = drawn_requests(seed, pages, words, 70)
            for rule in ONLINE:
                for room in (1, 2, 3, 5, 8):
                    memory = Memory(pages, words, room, rule=rule)
                    self.assertEqual(make_requests(memory, requests), plain_answers(requests))
                    self.assertEqual(state(memory), plain_state(requests, room, rule), (seed, rule, room))

    def test_behind_each_request(self):
        for seed in range(6):
            requests = drawn_requests(seed, 5, 2, 40)
            for rule in ONLINE:
                memory = Memory(5, 2, 3, rule=rule)
                for at, request in enumerate(requests):
                    make_requests(memory, [request])
                    self.assertEqual(state(memory), plain_state(requests[:at + 1], 3, rule))

    def test_read_as_if_all_pages_were_at_hand(self):
        requests = drawn_requests(1000, 12, 4, 200)
        told = plain_answers(requests)
        for rule in ONLINE:
            for room in range(1, 14):
                self.assertEqual(make_requests(Memory(12, 4, room, rule=rule), requests), told)


class TestMadeRefusals(unittest.TestCase):
    def refused(self, kind, what, pages, words, room, rule):
        with self.assertRaises(PageError) as seen:
            Memory(pages, words, room, rule=rule)
        self.assertEqual((seen.exception.__class__, seen.exception.what), (kind, what))

    def test_no_room(self):
        for room in (0, -1, -300, -10 ** 5000):
            self.refused(NoRoom, room, 1, 1, room, "last")

    def test_no_rule(self):
        for rule in ("far", "", "Last", "last ", "lru", "firs"):
            self.refused(NoRule, rule, 1, 1, 1, rule)

    def test_no_page(self):
        for pages in (0, -1, -100):
            self.refused(NoPage, pages, pages, 1, 1, "clock")

    def test_no_word(self):
        for words in (0, -1, -30):
            self.refused(NoWord, words, 1, words, 1, "first")

    def test_order(self):
        self.refused(NoRoom, 0, -1, -2, 0, "far")
        self.refused(NoRoom, 0, -1, -2, 0, "none")
        self.refused(NoRoom, -3, -1, 1, -3, "last")
        self.refused(NoRoom, -3, 1, -2, -3, "last")
        self.refused(NoRule, "far", -1, -2, 1, "far")
        self.refused(NoRule, "none", -1, 1, 1, "none")
        self.refused(NoRule, "none", 1, -2, 1, "none")
        self.refused(NoPage, -1, -1, -2, 1, "last")

    def test_with_the_rule_left_out(self):
        for kind, what, told in ((NoRoom, 0, (1, 1, 0)), (NoPage, 0, (0, 1, 1)), (NoWord, 0, (1, 0, 1))):
            with self.assertRaises(kind) as seen:
                Memory(*told)
            self.assertEqual(seen.exception.what, what)

    def test_one_of_each_is_enough(self):
        for rule in ONLINE:
            self.assertEqual(Memory(1, 1, 1, rule=rule).read(0, 0), 0)


class TestRequestRefusals(unittest.TestCase):
    def refused(self, memory, kind, what, page, word):
        for ask in (lambda: memory.read(page, word), lambda: memory.write(page, word, 99)):
            with self.assertRaises(PageError) as seen:
                ask()
            self.assertEqual((seen.exception.__class__, seen.exception.what), (kind, what))

    def test_no_page(self):
        for page in (-1, 3, 4, -3, 10 ** 60, -10 ** 5000):
            self.refused(Memory(3, 2, 1), NoPage, page, page, 0)

    def test_no_word(self):
        for word in (-1, 2, 3, -2, 10 ** 60, -10 ** 5000):
            self.refused(Memory(3, 2, 1), NoWord, word, 0, word)

    def test_no_page_goes_ahead_of_no_word(self):
        self.refused(Memory(3, 2, 1), NoPage, 3, 3, 2)
        self.refused(Memory(3, 2, 1), NoPage, -1, -1, -5)

    def test_the_greatest_page_and_word_are_there(self):
        memory = Memory(3, 2, 1)
        memory.write(2, 1, 8)
        self.assertEqual(memory.read(2, 1), 8)

    def test_what_is_refused_changes_nothing(self):
        for rule in ONLINE:
            draw = random.Random(5)
            requests = drawn_requests(77, 5, 2, 80)
            memory, plain = Memory(5, 2, 2, rule=rule), Memory(5, 2, 2, rule=rule)
            for request in requests:
                before = state(memory)
                page, word = draw.choice([(-1, 0), (5, 1), (0, 2), (4, -1), (request[0], 2), (9, 9)])
                self.refused(memory, NoWord if 0 <= page < 5 else NoPage, word if 0 <= page < 5 else page, page, word)
                self.assertEqual(state(memory), before)
                self.assertEqual(make_requests(memory, [request]), make_requests(plain, [request]))
                self.assertEqual(state(memory), state(plain))


class TestAsking(unittest.TestCase):
    def test_made_by_place_and_by_name(self):
        for memory in (
            Memory(3, 2, 1, rule="first"),
            Memory(3, 2, room=1, rule="first"),
            Memory(rule="first", room=1, words=2, pages=3),
        ):
            memory.write(2, 1, 5)
            self.assertEqual(memory.read(2, 1), 5)
            memory.read(0, 0)
            self.assertEqual(memory.held(), [0])
            with self.assertRaises(NoPage):
                memory.read(3, 0)
            with self.assertRaises(NoWord):
                memory.read(2, 2)

    def test_the_rule_by_its_name_alone(self):
        with self.assertRaises(TypeError):
            Memory(3, 2, 1, "last")

    def test_requests_by_name(self):
        memory = Memory(3, 2, 1)
        memory.write(worth=5, word=1, page=2)
        self.assertEqual(memory.read(word=1, page=2), 5)
        memory.write(2, 0, worth=6)
        self.assertEqual(memory.read(2, word=0), 6)

    def test_the_interface_stands_in_the_class(self):
        wanted = {
            "read": ["page", "word"], "write": ["page", "word", "worth"],
            "walk": [], "held": [], "soiled": [], "written": [],
        }
        for name, arguments in wanted.items():
            self.assertEqual(list(inspect.signature(vars(Memory)[name]).parameters)[1:], arguments)

    def test_kinds(self):
        memory = Memory(3, 2, 1)
        memory.write(0, 0, 5)
        memory.read(1, 0)
        for told in (memory.walk(), memory.held(), memory.soiled()):
            self.assertIs(told.__class__, list)
        self.assertIs(memory.walk()[0].__class__, tuple)
        for told in (memory.written(), memory.read(0, 0), memory.read(2, 1)):
            self.assertIs(told.__class__, int)

    def test_told_lists_are_the_askers_own(self):
        memory = Memory(4, 1, 2)
        memory.write(0, 0, 5)
        memory.write(1, 0, 6)
        asks = (memory.walk, memory.held, memory.soiled)
        kept = [ask() for ask in asks]
        for ask in asks:
            ask().clear()
            ask().append(3)
        self.assertEqual([ask() for ask in asks], kept)
        memory.read(2, 0)
        self.assertEqual(memory.walk()[-1], (2, "fault", 0))

    def test_nothing_asked_later_changes_a_told_list(self):
        memory = Memory(4, 1, 2)
        memory.write(0, 0, 5)
        told = (memory.walk(), memory.held(), memory.soiled())
        for page in (1, 2, 3):
            memory.write(page, 0, 5)
        self.assertEqual(told, ([(0, "fault", None)], [0], [0]))

    def test_of_a_new_memory_too(self):
        memory = Memory(4, 1, 2)
        for ask in (memory.walk, memory.held, memory.soiled):
            ask().append(1)
        self.assertEqual(state(memory), ([], [], [], 0))


class TestGreatest(unittest.TestCase):
    def test_a_hundred_pages_of_thirty_words(self):
        for seed in range(3):
            requests = drawn_requests(seed, 100, 30, 300)
            answers = plain_answers(requests)
            for rule in ONLINE:
                for room in (1, 2, 50, 99, 100, 300):
                    memory = Memory(100, 30, room, rule=rule)
                    self.assertEqual(make_requests(memory, requests), answers)
                    self.assertEqual(state(memory), plain_state(requests, room, rule))

    def test_few_words_asked_for_often(self):
        requests = [(page * 11, word * 29, worth) for page, word, worth in drawn_requests(9, 10, 2, 300)]
        for rule in ONLINE:
            for room in (1, 4, 9, 10):
                memory = Memory(100, 30, room, rule=rule)
                self.assertEqual(make_requests(memory, requests), plain_answers(requests))
                self.assertEqual(state(memory), plain_state(requests, room, rule))

    def test_somewhat_beyond(self):
        for rule in ONLINE:
            memory = Memory(10 ** 12, 10 ** 12, 10 ** 12, rule=rule)
            memory.write(10 ** 12 - 1, 10 ** 12 - 1, 10 ** 100)
            self.assertEqual(memory.read(10 ** 12 - 1, 10 ** 12 - 1), 10 ** 100)
            self.assertEqual(memory.held(), [10 ** 12 - 1])


if __name__ == "__main__":
    unittest.main()
