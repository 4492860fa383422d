"""The best choice with its tolls, and the best worths by ever more rooms."""

import random
import time
import unittest
from itertools import product

from spantolls.answers import Best
from spantolls.choosing import best, worths
from tests import plain

FAR = 10 ** 400

# Requests 0 and 2 fill one room from 1 to 6; request 1 lies across both, request 3 beyond all.
REQUESTS = [(1, 3, 5), (2, 5, 8), (4, 6, 6), (9, 9, 2)]


class Held(unittest.TestCase):
    def hold(self, requests, rooms, worth):
        answer = best(requests, rooms)
        self.assertIs(type(answer), Best)
        self.assertIs(answer.shows(requests, rooms), True, (requests, rooms, vars(answer)))
        self.assertEqual(plain.worth(requests, answer.taken), worth, (requests, rooms))
        return answer

    def hold_day_for_day(self, requests, rooms):
        answer = best(requests, rooms)
        self.assertTrue(plain.is_best(requests, rooms, answer.taken, answer.tolls), (requests, rooms, vars(answer)))
        self.assertEqual(answer.taken, sorted(set(answer.taken)))
        days = [day for day, amount in answer.tolls]
        self.assertEqual(days, sorted(set(days)))
        self.assertTrue(all(amount >= 0 for day, amount in answer.tolls))
        return answer

    def hold_worths(self, requests, rooms):
        told = worths(requests, rooms)
        self.assertIs(type(told), list)
        self.assertEqual(len(told), rooms + 1)
        self.assertEqual(told[0], 0)
        growths = [more - less for less, more in zip(told, told[1:])]
        self.assertTrue(all(growth >= 0 for growth in growths), told)
        self.assertEqual(growths, sorted(growths, reverse=True))
        return told


class TheBest(Held):
    def test_one_room(self):
        answer = self.hold(REQUESTS, 1, 13)
        self.assertEqual(answer.taken, [0, 2, 3])

    def test_two_rooms_take_all(self):
        self.assertEqual(self.hold(REQUESTS, 2, 21).taken, [0, 1, 2, 3])

    def test_one_room_more_each_time(self):
        requests = [(1, 3, 4), (2, 5, 9), (4, 6, 4), (1, 6, 7)]
        self.assertEqual(self.hold(requests, 1, 9).taken, [1])
        self.assertEqual(self.hold(requests, 2, 17).taken, [0, 1, 2])
        self.assertEqual(self.hold(requests, 3, 24).taken, [0, 1, 2, 3])

    def test_a_taken_request_is_moved_out_of_the_way_by_a_further_room(self):
        requests = [(1, 4, 6), (3, 8, 10), (7, 9, 6), (4, 7, 3)]
        self.assertEqual(self.hold(requests, 1, 12).taken, [0, 2])
        self.hold(requests, 2, 22)

    def test_no_requests(self):
        for rooms in (0, 1, 2, 100, FAR):
            answer = self.hold([], rooms, 0)
            self.assertEqual(answer.taken, [])

    def test_no_rooms(self):
        answer = self.hold(REQUESTS, 0, 0)
        self.assertEqual(answer.taken, [])
        self.assertEqual(self.hold([(1, 2, 0)], 0, 0).taken, [])
        self.hold([(1, 2, 3)] * 5 + [(-9, 9, 4), (2, 2, 30)], 0, 0)

    def test_as_many_rooms_as_requests_and_more(self):
        for requests in (REQUESTS, [(1, 5, 2)] * 6, [(0, 9, 3), (1, 8, 4), (2, 7, 5)]):
            everything = sum(price for first, last, price in requests)
            for rooms in (len(requests), len(requests) + 1, len(requests) + 7, FAR):
                self.assertEqual(self.hold(requests, rooms, everything).taken, list(range(len(requests))))

    def test_the_same_days_many_times_over(self):
        requests = [(3, 5, price) for price in (4, 9, 1, 9, 7, 0, 2)]
        for rooms, worth in enumerate((0, 9, 18, 25, 29, 31, 32, 32, 32)):
            self.hold(requests, rooms, worth)

    def test_days_nested(self):
        requests = [(-size, size, 10 - size) for size in range(10)]
        for rooms in range(12):
            self.hold(requests, rooms, sum(range(10, 10 - min(rooms, 10), -1)))
        requests = [(-size, size, 1 + size) for size in range(10)]
        for rooms in range(12):
            self.hold(requests, rooms, sum(range(10, 10 - min(rooms, 10), -1)))

    def test_days_that_only_touch(self):
        apart = [(0, 1, 3), (2, 3, 4), (4, 5, 5)]
        self.assertEqual(self.hold(apart, 1, 12).taken, [0, 1, 2])
        touching = [(0, 2, 3), (2, 4, 5), (4, 6, 3)]
        self.assertEqual(self.hold(touching, 1, 6).taken, [0, 2])
        touching = [(0, 2, 3), (2, 4, 7), (4, 6, 3)]
        self.assertEqual(self.hold(touching, 1, 7).taken, [1])
        self.hold(touching, 2, 13)

    def test_requests_for_one_day_each(self):
        self.hold([(5, 5, 1), (6, 6, 2), (5, 5, 3), (7, 7, 4), (7, 7, 4)], 1, 9)

    def test_prices_all_nought(self):
        for rooms in range(5):
            self.hold([(1, 2, 0), (2, 3, 0), (1, 9, 0)], rooms, 0)

    def test_prices_all_alike(self):
        requests = [(day, day + 2, 4) for day in range(9)]
        for rooms, worth in enumerate((0, 12, 24, 36, 36)):
            self.hold(requests, rooms, worth)

    def test_a_free_request_beside_others(self):
        self.hold([(1, 2, 0), (2, 3, 7), (1, 3, 0)], 1, 7)

    def test_prices_of_hundreds_of_figures(self):
        requests = [(1, 3, FAR), (2, 5, FAR + 1), (4, 6, 1), (3, 3, FAR * 2 + 5)]
        self.hold(requests, 0, 0)
        self.hold(requests, 1, FAR * 2 + 6)
        self.hold(requests, 2, FAR * 3 + 7)
        self.hold(requests, 3, FAR * 4 + 7)

    def test_days_very_far_apart(self):
        requests = [(-FAR, FAR, 10), (FAR, FAR * 2, 3), (-FAR, FAR - 1, 8), (0, 0, 1), (-FAR * 3, -FAR - 1, 5)]
        self.assertEqual(self.hold(requests, 1, 16).taken, [1, 2, 4])
        self.hold(requests, 2, 26)
        self.hold(requests, 3, 27)

    def test_the_order_of_the_requests_changes_no_worth(self):
        for turn in range(len(REQUESTS)):
            requests = REQUESTS[turn:] + REQUESTS[:turn]
            self.hold(requests, 1, 13)
            self.hold(requests[::-1], 1, 13)

    def test_days_moved_change_no_worth(self):
        for far in (-5, -1000, FAR, -FAR):
            self.hold([(first + far, last + far, price) for first, last, price in REQUESTS], 1, 13)


class TheBestAgainstAllChoices(Held):
    def hold_all(self, requests, most_rooms):
        for rooms in range(most_rooms + 1):
            answer = self.hold_day_for_day(requests, rooms)
            self.hold(requests, rooms, plain.best_worth(requests, rooms))
            self.assertTrue(plain.fits(requests, rooms, answer.taken))
        self.assertEqual(
            self.hold_worths(requests, most_rooms),
            [plain.best_worth(requests, rooms) for rooms in range(most_rooms + 1)],
        )

    def test_every_pair_of_requests_for_three_days(self):
        spans = [(0, 0), (1, 1), (2, 2), (0, 1), (1, 2), (0, 2)]
        for one, other in product(spans, repeat=2):
            for prices in product((0, 1, 2), repeat=2):
                self.hold_all([one + prices[:1], other + prices[1:]], 3)

    def test_three_and_four_requests(self):
        spans = [(0, 0), (1, 1), (2, 2), (0, 1), (1, 2), (0, 2)]
        chance = random.Random(3)
        for turn in range(150):
            count = chance.choice((3, 4))
            requests = [chance.choice(spans) + (chance.randrange(4),) for each in range(count)]
            self.hold_all(requests, count + 1)

    def test_up_to_nine_requests(self):
        chance = random.Random(20261116)
        for turn in range(120):
            count = chance.randrange(10)
            requests = plain.some_requests(chance, count, 10, chance.choice((2, 5, 9)), chance.choice((2, 4, 50)))
            self.hold_all(requests, min(count + 2, 5))


class ManyRequests(Held):
    def in_time(self, requests, rooms_told):
        begun = time.monotonic()
        told = self.hold_worths(requests, max(rooms_told))
        answers = [best(requests, rooms) for rooms in rooms_told]
        self.assertLess(time.monotonic() - begun, 20)
        for rooms, answer in zip(rooms_told, answers):
            self.assertIs(answer.shows(requests, rooms), True)
            self.assertEqual(plain.worth(requests, answer.taken), told[rooms])

    def test_sixty_and_a_hundred(self):
        chance = random.Random(60)
        for count in (60, 100):
            for length in (2, 20, 100):
                requests = plain.some_requests(chance, count, 100, length, 1000)
                self.hold_day_for_day(requests, 3)
                self.in_time(requests, (0, 1, 2, 7, 30, count - 1, count, count + 1))

    def test_a_hundred_nested_and_a_hundred_like_stairs(self):
        nested = [(-size, size, 100 - size * size % 37) for size in range(100)]
        stairs = [(2 * step, 2 * step + 41, 50 + step * step % 41) for step in range(100)]
        for requests in (nested, stairs, nested + stairs):
            self.in_time(requests, (0, 1, 2, 10, 50, len(requests)))

    def test_a_hundred_far_apart_with_long_prices(self):
        chance = random.Random(100)
        requests = plain.some_requests(chance, 100, FAR, FAR, FAR)
        self.in_time(requests, (0, 1, 5, 20, 101))

    def test_a_hundred_for_the_same_days(self):
        requests = [(1, 10, price * 7 % 100) for price in range(100)]
        self.in_time(requests, (0, 1, 50, 99, 100, 101))
        self.in_time([(1, 10, 3)] * 100, (0, 1, 50, 99, 100, 101))

    def test_some_hundreds(self):
        chance = random.Random(400)
        self.in_time(plain.some_requests(chance, 400, 300, 60, 90), (0, 1, 10, 60))


class TheWorths(Held):
    def test_the_list(self):
        self.assertEqual(worths(REQUESTS, 0), [0])
        self.assertEqual(worths(REQUESTS, 1), [0, 13])
        self.assertEqual(worths(REQUESTS, 2), [0, 13, 21])
        self.assertEqual(worths(REQUESTS, 5), [0, 13, 21, 21, 21, 21])

    def test_no_requests(self):
        for rooms in range(4):
            self.assertEqual(worths([], rooms), [0] * (rooms + 1))

    def test_prices_all_nought(self):
        self.assertEqual(worths([(1, 2, 0), (2, 2, 0)], 3), [0, 0, 0, 0])

    def test_the_same_days_many_times_over(self):
        requests = [(3, 5, price) for price in (4, 9, 1, 9, 7, 0, 2)]
        self.assertEqual(worths(requests, 9), [0, 9, 18, 25, 29, 31, 32, 32, 32, 32])

    def test_all_prices_together_where_rooms_are_as_many_as_requests(self):
        chance = random.Random(8)
        for turn in range(40):
            count = chance.randrange(12)
            requests = plain.some_requests(chance, count, 6, 6, 9)
            told = self.hold_worths(requests, count + 3)
            self.assertEqual(told[count:], [sum(price for first, last, price in requests)] * 4)

    def test_each_is_the_worth_of_the_best_choice(self):
        chance = random.Random(9)
        for turn in range(40):
            requests = plain.some_requests(chance, 14, 12, 7, 30)
            for rooms, worth in enumerate(self.hold_worths(requests, 16)):
                self.hold(requests, rooms, worth)

    def test_far_days_and_long_prices(self):
        requests = [(-FAR, FAR, FAR), (0, 0, FAR + 1), (FAR, FAR, 2)]
        self.assertEqual(self.hold_worths(requests, 3), [0, FAR + 3, FAR * 2 + 3, FAR * 2 + 3])


if __name__ == "__main__":
    unittest.main()
