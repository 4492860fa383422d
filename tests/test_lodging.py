"""A room for each request, or a crowd."""

import random
import unittest
from itertools import product

from spantolls.answers import Crowd, Lodged
from spantolls.lodging import lodged
from tests import plain

FAR = 10 ** 400

# Two for each day from 2 to 5, one for the others.
REQUESTS = [(1, 3, 5), (2, 5, 8), (4, 6, 6)]


class Held(unittest.TestCase):
    def lodge(self, requests, rooms):
        answer = lodged(requests, rooms)
        self.assertIs(type(answer), Lodged, (requests, rooms))
        self.assertIs(answer.shows(requests, rooms), True, (requests, rooms, vars(answer)))
        return answer

    def crowd(self, requests, rooms):
        answer = lodged(requests, rooms)
        self.assertIs(type(answer), Crowd, (requests, rooms))
        self.assertIs(answer.shows(requests, rooms), True, (requests, rooms, vars(answer)))
        return answer


class OneOrTheOther(Held):
    def test_rooms_enough(self):
        for rooms in (2, 3, 4, FAR):
            self.lodge(REQUESTS, rooms)

    def test_too_few_rooms(self):
        for rooms in (0, 1):
            self.crowd(REQUESTS, rooms)

    def test_no_requests(self):
        for rooms in (0, 1, FAR):
            self.assertEqual(self.lodge([], rooms).rooms, [])

    def test_no_rooms(self):
        answer = self.crowd([(4, 6, 0)], 0)
        self.assertIn(answer.day, (4, 5, 6))
        self.assertEqual(answer.asking, [0])

    def test_one_behind_the_other_in_one_room(self):
        self.assertEqual(self.lodge([(5, 6, 1), (1, 2, 1), (3, 4, 1)], 1).rooms, [0, 0, 0])

    def test_the_last_day_of_one_is_the_first_of_another(self):
        answer = self.crowd([(1, 2, 1), (2, 3, 1)], 1)
        self.assertEqual((answer.day, answer.asking), (2, [0, 1]))
        self.lodge([(1, 2, 1), (2, 3, 1)], 2)

    def test_one_day_each(self):
        self.lodge([(5, 5, 1), (6, 6, 1), (4, 4, 1)], 1)
        self.assertEqual(self.crowd([(5, 5, 1), (6, 6, 1), (5, 5, 1)], 1).asking, [0, 2])

    def test_the_same_days_many_times_over(self):
        requests = [(2, 4, 0)] * 6
        for rooms in range(6):
            self.crowd(requests, rooms)
        for rooms in (6, 7, 100):
            self.assertEqual(len(set(self.lodge(requests, rooms).rooms)), 6)

    def test_counts_rise_though_the_days_do_not(self):
        answer = self.crowd([(5, 9, 1), (4, 9, 1), (30, 30, 1), (3, 9, 1)], 2)
        self.assertEqual((answer.day, answer.asking), (5, [0, 1, 3]))

    def test_days_far_apart_and_below_nought(self):
        requests = [(-FAR, -1, 1), (-FAR, FAR, FAR), (0, FAR, 1)]
        self.lodge(requests, 2)
        self.crowd(requests, 1)
        self.crowd(requests + [(-1, 0, 0)], 2)
        self.lodge(requests + [(-1, 0, 0)], 3)


class AgainstTheWordsOfTheDocument(Held):
    def hold(self, requests, rooms):
        most = max([len(plain.asked_for(requests, day)) for day in plain.days_of(requests)], default=0)
        if most <= rooms:
            answer = self.lodge(requests, rooms)
            self.assertTrue(plain.is_lodged(requests, rooms, answer.rooms), (requests, rooms))
        else:
            answer = self.crowd(requests, rooms)
            self.assertTrue(plain.is_crowd(requests, rooms, answer.day, answer.asking), (requests, rooms))
            self.assertEqual(answer.asking, sorted(set(answer.asking)))

    def test_every_pair_of_requests_for_three_days(self):
        spans = [(0, 0), (1, 1), (2, 2), (0, 1), (1, 2), (0, 2)]
        for one, other in product(spans, repeat=2):
            for rooms in range(4):
                self.hold([one + (0,), other + (3,)], rooms)

    def test_more_requests(self):
        chance = random.Random(6)
        for turn in range(300):
            count = chance.randrange(25)
            requests = plain.some_requests(chance, count, 20, chance.choice((1, 3, 12)))
            for rooms in list(range(8)) + [count, count + 1]:
                self.hold(requests, rooms)

    def test_many_requests(self):
        requests = plain.some_requests(random.Random(7), 3000, 5000, 80)
        most = max(len(plain.asked_for(requests, first)) for first, last, price in requests)
        self.lodge(requests, most)
        self.crowd(requests, most - 1)


if __name__ == "__main__":
    unittest.main()
