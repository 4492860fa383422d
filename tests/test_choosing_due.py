"""What a further request has to offer."""

import random
import time
import unittest
from itertools import product

from spantolls.answers import Best, Due
from spantolls.choosing import due, worths
from tests import plain

FAR = 10 ** 400
REQUESTS = [(1, 2, 5), (2, 3, 4)]


class Held(unittest.TestCase):
    def hold(self, requests, rooms, first, last):
        answer = due(requests, rooms, first, last)
        asked = (requests, rooms, first, last)
        self.assertIs(type(answer), Due)
        self.assertIs(type(answer.price), int)
        self.assertIs(answer.shows(*asked), True, (asked, vars(answer)))
        everyone = requests + [(first, last, answer.price)]
        self.assertIs(Best(answer.taken, answer.tolls).shows(everyone, rooms), True, asked)
        self.assertIs(Best(answer.others, answer.other_tolls).shows(requests, rooms), True, asked)
        self.assertEqual(answer.taken[-1], len(requests))
        self.assertEqual(plain.worth(everyone, answer.taken), plain.worth(requests, answer.others))
        self.hold_beside(requests, rooms, first, last, answer.price)
        return answer

    def hold_beside(self, requests, rooms, first, last, price):
        """By one more the best worth is one more: so the price is neither too low nor too high."""
        now = worths(requests, rooms)[-1]
        self.assertEqual(worths(requests + [(first, last, price)], rooms)[-1], now)
        self.assertEqual(worths(requests + [(first, last, price + 1)], rooms)[-1], now + 1)


class TheDue(Held):
    def price(self, requests, rooms, first, last, price):
        self.assertEqual(self.hold(requests, rooms, first, last).price, price)

    def test_one_room(self):
        self.price(REQUESTS, 1, 1, 1, 1)
        self.price(REQUESTS, 1, 2, 2, 5)
        self.price(REQUESTS, 1, 3, 3, 0)
        self.price(REQUESTS, 1, 1, 3, 5)
        self.price([(1, 2, 5), (3, 4, 4)], 1, 2, 3, 9)

    def test_days_that_no_other_asks_for(self):
        for first, last in ((0, 0), (-9, 0), (4, 4), (4, 99), (-FAR, 0), (4, FAR), (FAR, FAR), (-FAR, -FAR)):
            self.price(REQUESTS, 1, first, last, 0)

    def test_days_that_all_ask_for(self):
        requests = [(3, 7, price) for price in (4, 9, 1, 9, 7, 0, 2)]
        for rooms, price in ((1, 9), (2, 9), (3, 7), (4, 4), (5, 2), (6, 1), (7, 0), (8, 0)):
            for first, last in ((3, 7), (5, 5), (0, 3), (7, 7), (-FAR, FAR)):
                self.price(requests, rooms, first, last, price)

    def test_no_requests_at_all(self):
        for rooms in (1, 2, 50):
            for first, last in ((0, 0), (-4, 9), (-FAR, FAR)):
                self.price([], rooms, first, last, 0)

    def test_the_answer_with_no_requests(self):
        answer = due([], 1, 4, 6)
        self.assertEqual(vars(answer), {"price": 0, "taken": [0], "tolls": [], "others": [], "other_tolls": []})

    def test_more_rooms_than_requests(self):
        for rooms in (3, 4, 20):
            self.price(REQUESTS, rooms, 1, 3, 0)
        self.assertIs(due(REQUESTS, FAR, 1, 3).shows(REQUESTS, FAR, 1, 3), True)

    def test_as_many_rooms_as_requests(self):
        self.price(REQUESTS, 2, 1, 1, 0)
        self.price(REQUESTS, 2, 2, 2, 4)
        self.price(REQUESTS, 2, 1, 3, 4)

    def test_others_all_for_nothing(self):
        self.price([(1, 2, 0)] * 3, 1, 1, 2, 0)
        self.price([(1, 2, 0)] * 3, 3, 2, 2, 0)

    def test_a_request_like_one_of_the_others(self):
        self.price([(1, 3, 5)], 1, 1, 3, 5)
        self.price([(1, 3, 5)], 1, 3, 3, 5)
        self.price([(1, 3, 5), (3, 3, 5)], 1, 3, 3, 5)

    def test_others_make_way_for_less_than_they_offer(self):
        requests = [(1, 4, 10), (1, 2, 3), (3, 4, 6)]
        self.price(requests, 1, 1, 1, 4)
        self.price(requests, 1, 4, 4, 7)
        self.price(requests, 1, 2, 3, 10)

    def test_long_prices_and_far_days(self):
        requests = [(-FAR, 0, FAR), (1, FAR, FAR + 1)]
        self.price(requests, 1, -FAR, FAR, FAR * 2 + 1)
        self.price(requests, 1, FAR, FAR * 2, FAR + 1)
        self.price(requests, 1, -FAR * 2, -FAR, FAR)
        self.price(requests, 2, -FAR, FAR, 0)


class AgainstAllChoices(Held):
    def hold_all(self, requests, rooms, first, last):
        price = self.hold(requests, rooms, first, last).price
        asked = (requests, rooms, first, last, price)
        self.assertEqual(price, plain.least_price(requests, rooms, first, last), asked)
        if price > 0:
            self.assertFalse(self.in_some_best(requests, rooms, (first, last, price - 1)), asked)
        self.assertTrue(self.in_some_best(requests, rooms, (first, last, price)), asked)

    def in_some_best(self, requests, rooms, request):
        everyone = requests + [request]
        most = plain.best_worth(everyone, rooms)
        return any(
            len(requests) in taken and plain.fits(everyone, rooms, taken) and plain.worth(everyone, taken) == most
            for taken in plain.choices(len(everyone))
        )

    def test_pairs_of_requests_for_two_days(self):
        spans = [(0, 0), (1, 1), (0, 1)]
        for one, other, days in product(spans, repeat=3):
            for prices in ((1, 1), (1, 2), (2, 0)):
                for rooms in (1, 2, 3):
                    self.hold_all([one + prices[:1], other + prices[1:]], rooms, *days)

    def test_up_to_six_requests(self):
        chance = random.Random(55)
        for turn in range(150):
            requests = plain.some_requests(chance, chance.randrange(7), 8, chance.choice((2, 6)), 5)
            first = chance.randrange(-5, 7)
            self.hold_all(requests, chance.choice((1, 1, 2, 3)), first, first + chance.randrange(6))


class ManyRequests(Held):
    def test_sixty_and_a_hundred(self):
        chance = random.Random(61)
        for count in (60, 100):
            for rooms in (1, 2, 10, count, count + 1):
                requests = plain.some_requests(chance, count, 80, 30, 1000)
                first = chance.randrange(-50, 50)
                begun = time.monotonic()
                due(requests, rooms, first, first + 20)
                self.assertLess(time.monotonic() - begun, 20)
                self.hold(requests, rooms, first, first + 20)


if __name__ == "__main__":
    unittest.main()
