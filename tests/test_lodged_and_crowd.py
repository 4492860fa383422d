import random
import unittest
from itertools import product

from spantolls.answers import Crowd, Lodged
from tests import plain

FAR = 10 ** 400

# Two for each day from 2 to 5, one for the others.
REQUESTS = [(1, 3, 5), (2, 5, 8), (4, 6, 6)]


class RightLodgings(unittest.TestCase):
    def right(self, lodgings, requests, rooms):
        self.assertIs(Lodged(lodgings).shows(requests, rooms), True)

    def test_as_many_rooms_as_needed(self):
        self.right([0, 1, 0], REQUESTS, 2)
        self.right([1, 0, 1], REQUESTS, 2)

    def test_more_rooms_than_needed(self):
        self.right([0, 1, 2], REQUESTS, 3)
        self.right([2, 1, 0], REQUESTS, 3)
        self.right([FAR - 1, 0, 7], REQUESTS, FAR)

    def test_one_behind_the_other_in_one_room(self):
        self.right([0, 0, 0], [(5, 6, 1), (1, 2, 1), (3, 4, 1)], 1)

    def test_no_requests(self):
        self.right([], [], 0)
        self.right([], [], 1)
        self.right([], [], FAR)

    def test_requests_of_price_nought_are_lodged_too(self):
        self.right([0, 1], [(1, 1, 0), (1, 1, 0)], 2)

    def test_days_far_apart(self):
        self.right([0, 1, 0], [(-FAR, -1, 1), (-FAR, FAR, 1), (0, FAR, 1)], 2)


class WrongLodgings(unittest.TestCase):
    def wrong(self, lodgings, requests=REQUESTS, rooms=2):
        self.assertIs(Lodged(lodgings).shows(requests, rooms), False)

    def test_two_for_one_day_in_the_same_room(self):
        self.wrong([0, 0, 1])
        self.wrong([0, 1, 1])
        self.wrong([0, 0, 0])
        self.wrong([0, 0, 1], rooms=9)

    def test_the_last_day_of_one_is_the_first_of_another(self):
        self.wrong([0, 0], [(1, 2, 1), (2, 3, 1)], 1)
        self.wrong([0, 0], [(2, 3, 1), (1, 2, 1)], 1)

    def test_one_day_within_another_request(self):
        self.wrong([0, 0], [(1, 9, 1), (5, 5, 1)], 1)
        self.wrong([0, 0, 0], [(1, 9, 1), (5, 5, 1), (20, 20, 1)], 1)
        self.wrong([0, 0], [(4, 4, 1), (4, 4, 1)], 1)

    def test_a_room_left_out_or_one_more(self):
        self.wrong([0, 1])
        self.wrong([0, 1, 0, 1])
        self.wrong([])
        self.wrong([0], [], 1)
        self.wrong([], [(1, 1, 1)], 1)

    def test_rooms_in_another_order(self):
        self.wrong([1, 1, 0], rooms=2)
        self.wrong([1, 0, 0], rooms=2)

    def test_rooms_below_nought_or_beyond_the_count(self):
        self.wrong([0, -1, 0])
        self.wrong([0, 2, 0])
        self.wrong([2, 1, 2])
        self.wrong([0, FAR, 0])
        self.wrong([0, -FAR, 0])
        self.wrong([0, 1, 0], rooms=1)
        self.wrong([1], [(1, 1, 1)], 1)
        self.wrong([-1], [(1, 1, 1)], 1)

    def test_no_rooms(self):
        self.wrong([0], [(1, 1, 1)], 0)
        self.wrong([0, 1, 0], rooms=0)
        self.wrong([-1], [(1, 1, 1)], 0)

    def test_days_far_apart(self):
        self.wrong([0, 1, 0], [(-FAR, 0, 1), (-FAR, FAR, 1), (0, FAR, 1)], 2)
        self.wrong([0, 0], [(-FAR, FAR, 1), (FAR, FAR + FAR, 1)], 1)


class RightCrowds(unittest.TestCase):
    def right(self, day, asking, requests, rooms):
        self.assertIs(Crowd(day, asking).shows(requests, rooms), True)

    def test_one_more_than_there_are_rooms(self):
        for day, asking in ((2, [0, 1]), (3, [0, 1]), (4, [1, 2]), (5, [1, 2])):
            self.right(day, asking, REQUESTS, 1)

    def test_more_than_needed(self):
        self.right(4, [0, 1, 2], [(4, 4, 1), (4, 4, 1), (1, 4, 1)], 1)

    def test_fewer_than_ask_for_the_day(self):
        for asking in ([0, 1], [0, 2], [1, 2]):
            self.right(4, asking, [(4, 4, 1), (4, 4, 1), (1, 4, 1)], 1)

    def test_no_rooms(self):
        self.right(1, [0], REQUESTS, 0)
        self.right(6, [2], REQUESTS, 0)

    def test_days_far_apart(self):
        requests = [(-FAR, FAR, 1), (FAR, FAR + FAR, 1), (-FAR - FAR, -FAR, 1)]
        self.right(FAR, [0, 1], requests, 1)
        self.right(-FAR, [0, 2], requests, 1)
        self.right(FAR + FAR, [1], requests, 0)


class WrongCrowds(unittest.TestCase):
    def wrong(self, day, asking, requests=REQUESTS, rooms=1):
        self.assertIs(Crowd(day, asking).shows(requests, rooms), False)

    def test_no_more_than_there_are_rooms(self):
        self.wrong(2, [0, 1], rooms=2)
        self.wrong(2, [0, 1], rooms=3)
        self.wrong(2, [0, 1], rooms=FAR)
        self.wrong(2, [0])
        self.wrong(2, [])
        self.wrong(2, [], rooms=0)

    def test_another_day(self):
        self.wrong(1, [0, 1])
        self.wrong(4, [0, 1])
        self.wrong(0, [0, 1])
        self.wrong(-2, [0, 1])
        self.wrong(6, [1, 2])
        self.wrong(0, [0], rooms=0)
        self.wrong(4, [0], rooms=0)

    def test_one_of_them_is_not_for_the_day(self):
        self.wrong(2, [0, 1, 2])
        self.wrong(2, [0, 2])
        self.wrong(5, [0, 1, 2])

    def test_counts_twice_or_in_another_order(self):
        self.wrong(2, [1, 0])
        self.wrong(1, [0, 0])
        self.wrong(2, [0, 0, 1])
        self.wrong(2, [0, 1, 1])

    def test_counts_below_nought_or_beyond_the_requests(self):
        self.wrong(4, [-2, -1])
        self.wrong(4, [-1, 1])
        self.wrong(4, [1, 2, 3])
        self.wrong(4, [1, 3])
        self.wrong(4, [FAR], rooms=0)
        self.wrong(4, [-FAR], rooms=0)

    def test_no_requests(self):
        self.wrong(1, [], [], 0)
        self.wrong(1, [0], [], 0)
        self.wrong(1, [-1], [], 0)

    def test_days_far_apart(self):
        requests = [(-FAR, FAR, 1), (FAR + 1, FAR + FAR, 1)]
        self.wrong(FAR, [0, 1], requests)
        self.wrong(FAR + 1, [0, 1], requests)


class AgainstTheWordsOfTheDocument(unittest.TestCase):
    """Small requests held against the day for day reckoning, and never both of the two."""

    def hold(self, requests, rooms):
        lodged = 0
        for lodgings in product(range(-1, rooms + 1), repeat=len(requests)):
            asked = plain.is_lodged(requests, rooms, list(lodgings))
            self.assertIs(Lodged(list(lodgings)).shows(requests, rooms), asked, (requests, rooms, lodgings))
            lodged += asked
        crowds = 0
        for day in range(-1, 7):
            for asking in plain.choices(len(requests)):
                asked = plain.is_crowd(requests, rooms, day, asking)
                self.assertIs(Crowd(day, asking).shows(requests, rooms), asked, (requests, rooms, day, asking))
                crowds += asked
        self.assertEqual(lodged > 0, crowds == 0, (requests, rooms))

    def test_every_pair_of_requests_for_three_days(self):
        spans = [(0, 0), (1, 1), (2, 2), (0, 1), (1, 2), (0, 2)]
        for one, other in product(spans, repeat=2):
            for rooms in range(4):
                self.hold([one + (0,), other + (3,)], rooms)

    def test_more_requests(self):
        chance = random.Random(11)
        for turn in range(80):
            requests = []
            for count in range(chance.randrange(5)):
                first = chance.randrange(5)
                requests.append((first, first + chance.randrange(3), chance.randrange(3)))
            for rooms in range(4):
                self.hold(requests, rooms)

    def test_many_requests(self):
        count = 5000
        requests = [(day, day + 1, 1) for day in range(count)]
        lodgings = [day % 2 for day in range(count)]
        self.assertIs(Lodged(lodgings).shows(requests, 2), True)
        lodgings[-1] = 1 - lodgings[-1]
        self.assertIs(Lodged(lodgings).shows(requests, 2), False)
        self.assertIs(Crowd(count, list(range(count))).shows([(0, count, 1)] * count, count - 1), True)


if __name__ == "__main__":
    unittest.main()
