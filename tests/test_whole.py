"""[4]: the promise of the whole, at drawn inputs, held across all modules."""

import random
import unittest

from pagerooms.colours import take, wall
from pagerooms.deals import deal, deal_faults, price
from pagerooms.fewest import bound, fewest, paper
from pagerooms.houses import House
from pagerooms.loose import loose_faults
from pagerooms.memories import Memory
from pagerooms.turns import job_faults, story
from pagerooms.walks import curve, faults, walk
from pagerooms.working import window_walk
from tests.plain import RULES, count_faults, fewest_of_all_choices
from tests.plain_deals import all_deals, drawn_traces
from tests.plain_house import PlainHouse, all_takings, ask, drawn_house, drawn_requests, height
from tests.plain_memory import ONLINE
from tests.plain_turns import PlainTurns, drawn_jobs, drawn_trace


class TestReads(unittest.TestCase):
    def test_each_task_reads_what_it_wrote_last_as_if_alone(self):
        for seed in range(80):
            tasks, frames, colours = drawn_house(seed)
            house = House(tasks, frames, colours=colours)
            alone = [Memory(pages, words, pages) for pages, words, _ in tasks]
            few = [Memory(pages, words, 1 + seed % 4, rule=ONLINE[seed % 3]) for pages, words, _ in tasks]
            at_hand = {}
            for task, page, word, worth in drawn_requests(seed + 3000, tasks, 120):
                if worth is not None:
                    at_hand[task, page, word] = worth
                    alone[task].write(page, word, worth)
                    few[task].write(page, word, worth)
                wanted = at_hand.get((task, page, word), 0)
                self.assertEqual(ask(house, task, page, word, worth)[0], wanted)
                self.assertEqual((alone[task].read(page, word), few[task].read(page, word)), (wanted, wanted))

    def test_at_the_end_all_words_of_all_tasks_are_there(self):
        for seed in range(40):
            tasks, frames, colours = drawn_house(seed)
            house = House(tasks, frames, colours=colours)
            at_hand = {}
            for task, page, word, worth in drawn_requests(seed, tasks, 120):
                ask(house, task, page, word, worth)
                if worth is not None:
                    at_hand[task, page, word] = worth
            for task, (pages, words, _) in enumerate(tasks):
                for page in range(pages):
                    for word in range(words):
                        self.assertEqual(house.read(task, page, word)[0], at_hand.get((task, page, word), 0))


class TestFaults(unittest.TestCase):
    def test_those_of_a_memory_are_those_of_the_walk(self):
        for seed in range(30):
            draw = random.Random(seed)
            trace = drawn_trace(draw, 60)
            for rule in ONLINE:
                memory = Memory(9, 1, 1 + seed % 6, rule=rule)
                for page in trace:
                    if draw.random() < 0.5:
                        memory.read(page, 0)
                    else:
                        memory.write(page, 0, 5)
                self.assertEqual(memory.walk(), walk(trace, 1 + seed % 6, rule=rule))

    def test_by_last_no_room_more_brings_a_fault_more(self):
        for seed in range(60):
            trace = drawn_trace(random.Random(seed), 100)
            told = [faults(trace, room) for room in range(1, 13)]
            self.assertEqual(told, sorted(told, reverse=True))
            many = len(curve(trace))
            self.assertEqual(told[:many], curve(trace))
            self.assertEqual(told[many:], [curve(trace)[-1]] * (12 - many))

    def test_far_has_as_few_as_any_rule_shown_by_a_paper(self):
        for seed in range(60):
            trace = drawn_trace(random.Random(seed), 80)
            for room in range(1, 11):
                least = faults(trace, room, rule="far")
                self.assertEqual(bound(trace, room, paper(trace, room)), least)
                for rule in RULES:
                    self.assertLessEqual(least, faults(trace, room, rule=rule))

    def test_no_choice_at_all_has_fewer(self):
        for seed in range(30):
            trace = drawn_trace(random.Random(seed), 30)
            for room in range(1, 6):
                self.assertEqual(fewest(trace, room), fewest_of_all_choices(trace, room))

    def test_loose_jobs_have_no_fewer(self):
        for seed in range(40):
            traces = drawn_traces(seed, 4, 40)
            for frames in (2, 5, 9):
                for trace, many in zip(traces, loose_faults(traces, frames, turn=1 + seed % 4)):
                    self.assertGreaterEqual(many, fewest(trace, frames))


class TestControl(unittest.TestCase):
    def test_jobs_have_their_own_faults_and_at_most_what_they_lost(self):
        for seed in range(1000, 1200):
            jobs, frames, turn = drawn_jobs(seed)
            lost = PlainTurns(jobs, frames, turn).run().lost
            for (trace, window), (own, back), many in zip(jobs, job_faults(jobs, frames, turn=turn), lost):
                self.assertEqual(own, count_faults(window_walk(trace, window)))
                self.assertLessEqual(back, many)

    def test_all_jobs_come_to_their_end(self):
        for seed in range(1000, 1200):
            jobs, frames, turn = drawn_jobs(seed)
            told = story(jobs, frames, turn=turn)
            done = sorted(one[1] for one in told if one[0] == "done")
            self.assertEqual(done, [job for job, (trace, _) in enumerate(jobs) if trace])
            self.assertEqual(len([one for one in told if len(one) == 3]), sum(len(trace) for trace, _ in jobs))

    def test_pages_of_jobs_go_only_with_all_of_their_jobs(self):
        for seed in range(1000, 1100):
            jobs, frames, turn = drawn_jobs(seed)
            asked = [0] * len(jobs)
            held = [set() for _ in jobs]
            for one in story(jobs, frames, turn=turn):
                job = one[1]
                if len(one) == 2:
                    held[job] = set()
                    continue
                asked[job] += 1
                trace, window = jobs[job]
                # A page is a hit as long as it works and its job was not put off since it came.
                self.assertEqual(one[0] == "hit", one[2] in held[job])
                held[job] = (held[job] | {one[2]}) & set(trace[max(0, asked[job] - window):asked[job]])
                self.assertLessEqual(sum(len(pages) for pages in held), frames)

    def test_tasks_of_a_house_too(self):
        for seed in range(2000, 2080):
            tasks, frames, colours = drawn_house(seed)
            house, plain = House(tasks, frames, colours=colours), PlainHouse(tasks, frames, colours)
            words = [[] for _ in tasks]
            for request in drawn_requests(seed, tasks, 100):
                plain.request(*request)
                words[request[0]].append(ask(house, *request)[1])
            for task, (_, _, window) in enumerate(tasks):
                told = window_walk(plain.pages_of(task), window)
                self.assertEqual([word == "own" for word in words[task]], [word == "fault" for _, word, _ in told])
                self.assertLessEqual(words[task].count("back"), plain.lost[task])


class TestSharing(unittest.TestCase):
    def test_no_sharing_of_colours_has_a_lesser_greatest_part(self):
        for seed in range(120):
            draw = random.Random(seed)
            colours = draw.randrange(1, 5)
            shares = [draw.randrange(7) for _ in range(colours)]
            free = [draw.randrange(5) for _ in range(colours)]
            many = draw.randrange(sum(free) + 1)
            taken = take(shares, free, many)
            told = height(shares, [taken.count(colour) for colour in range(colours)])
            self.assertEqual(told, min(height(shares, way) for way in all_takings(free, many)))
            self.assertEqual(told, wall(shares, free, many)[0])

    def test_no_dealing_has_fewer_faults(self):
        for seed in range(1000, 1100):
            many = 1 + seed % 4
            traces = drawn_traces(seed, many, 24)
            for frames in range(many, many + 5):
                rooms = deal(traces, frames)
                told = deal_faults(traces, rooms)
                self.assertTrue(min(rooms) >= 1 and len(rooms) == many and sum(rooms) <= frames)
                self.assertEqual(told, min(deal_faults(traces, other) for other in all_deals(many, frames)))
                self.assertLessEqual(price(traces, frames)[1], told)


if __name__ == "__main__":
    unittest.main()
