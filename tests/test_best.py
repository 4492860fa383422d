import random
import unittest
from itertools import product

from spantolls.answers import Best
from tests import plain

FAR = 10 ** 400

# Requests 0 and 2 fill one room from 1 to 6; request 1 lies across both, request 3 beyond all.
REQUESTS = [(1, 3, 5), (2, 5, 8), (4, 6, 6), (9, 9, 2)]
TAKEN = [0, 2, 3]
TOLLS = [(2, 5), (4, 6)]


class RightOnes(unittest.TestCase):
    def right(self, taken, tolls, requests, rooms):
        self.assertIs(Best(taken, tolls).shows(requests, rooms), True)

    def test_one_room(self):
        self.right(TAKEN, TOLLS, REQUESTS, 1)
        self.right(TAKEN, [(2, 5), (4, 6), (9, 2)], REQUESTS, 1)
        self.right(TAKEN, [(3, 5), (4, 3), (5, 3)], REQUESTS, 1)

    def test_a_choice_may_leave_out_all_but_one(self):
        self.right([1], [(2, 4), (4, 4)], [(1, 3, 4), (2, 5, 9), (4, 6, 4)], 1)
        self.right([1], [(2, 9)], [(2, 2, 5), (1, 3, 9), (2, 4, 3)], 1)

    def test_two_rooms_need_no_toll(self):
        self.right([0, 1, 2, 3], [], REQUESTS, 2)
        self.right([0, 1, 2, 3], [], REQUESTS, 3)
        self.right([0, 1, 2, 3], [], REQUESTS, 10 ** 300)

    def test_two_rooms_with_tolls(self):
        requests = [(1, 1, 3), (1, 1, 2), (1, 1, 5)]
        self.right([0, 2], [(1, 2)], requests, 2)
        self.right([0, 2], [(1, 3)], requests, 2)
        self.right([2], [(1, 3)], requests, 1)
        self.right([2], [(1, 5)], requests, 1)

    def test_tolls_of_nought_and_tolls_on_the_edges_of_requests(self):
        self.right(TAKEN, [(-7, 0), (2, 5), (3, 0), (4, 6), (100, 0)], REQUESTS, 1)
        self.right([0], [(1, 5)], [(1, 1, 5)], 1)
        self.right([0], [(1, 2), (5, 3)], [(1, 5, 5)], 1)

    def test_no_requests(self):
        self.right([], [], [], 0)
        self.right([], [], [], 1)
        self.right([], [(1, 0)], [], 5)
        self.right([], [(1, 7)], [], 0)

    def test_no_rooms(self):
        self.right([], [(2, 5), (4, 6), (9, 2)], REQUESTS, 0)
        self.right([], [(2, 100), (4, 100), (9, 100)], REQUESTS, 0)

    def test_requests_for_nothing(self):
        requests = [(1, 2, 0), (1, 2, 0), (2, 3, 0)]
        for taken in ([], [0], [1], [2]):
            self.right(taken, [], requests, 1)
        self.right([], [], requests, 0)

    def test_request_that_ends_the_day_before_another_begins(self):
        self.right([0, 1], [], [(1, 2, 5), (3, 4, 5)], 1)
        self.right([0, 1], [], [(3, 4, 5), (1, 2, 5)], 1)

    def test_days_below_nought(self):
        self.right([0, 1], [(-4, 3), (-2, 2)], [(-4, -3, 3), (-2, 0, 2), (-3, -2, 1)], 1)

    def test_days_far_apart_and_long_numbers(self):
        requests = [(-FAR, FAR, FAR + 10), (FAR, FAR + FAR, FAR + 3), (-FAR, FAR - 1, 7)]
        self.right([1, 2], [(-FAR, 7), (FAR, FAR + 3)], requests, 1)
        self.right([0], [(-FAR, 7), (FAR, FAR + 3)], requests, 1)
        self.right([0, 1, 2], [], requests, 2)
        self.right([0, 1, 2], [], requests, FAR)


class WrongOnes(unittest.TestCase):
    def wrong(self, taken, tolls, requests=REQUESTS, rooms=1):
        self.assertIs(Best(taken, tolls).shows(requests, rooms), False)

    def test_another_count_of_rooms(self):
        self.wrong(TAKEN, TOLLS, rooms=0)
        self.wrong(TAKEN, TOLLS, rooms=2)
        self.wrong([0, 1, 2, 3], [], rooms=1)
        self.wrong([0, 1, 2, 3], [], rooms=0)

    def test_a_request_left_out_or_one_more(self):
        self.wrong([0, 2], TOLLS)
        self.wrong([2, 3], TOLLS)
        self.wrong([0, 3], TOLLS)
        self.wrong([], TOLLS)
        self.wrong([0, 1, 2, 3], TOLLS)
        self.wrong([1, 3], TOLLS)

    def test_more_for_a_day_than_rooms_though_the_worth_is_right(self):
        self.wrong([0, 1], [(1, 2)], [(1, 1, 1), (1, 1, 1)], 1)
        self.wrong([0, 1], [], [(1, 2, 3), (2, 3, 3)], 1)
        self.wrong([0, 1], [], [(2, 3, 3), (1, 2, 3)], 1)
        self.wrong([0], [(1, 0)], [(1, 1, 0)], 0)
        self.wrong([0, 1, 2], [], [(1, 9, 1), (2, 3, 1), (3, 4, 1)], 2)

    def test_counts_twice_or_in_another_order(self):
        self.wrong([2, 0, 3], TOLLS)
        self.wrong([3, 2, 0], TOLLS)
        self.wrong([0, 0], [(1, 1), (9, 9)], [(1, 1, 5)], 1)
        self.wrong([0, 0], [], [(1, 1, 0)], 2)
        self.wrong([0, 0], [(1, 5)], [(1, 1, 5)], 2)
        self.wrong([1, 0], [], [(1, 1, 5), (2, 2, 5)], 1)

    def test_counts_below_nought_or_beyond_the_requests(self):
        self.wrong([-1], [], [(1, 1, 5)], 1)
        self.wrong([-4, 2, 3], TOLLS)
        self.wrong([-2, 0, 3], TOLLS)
        self.wrong([0, 2, 3, 4], TOLLS)
        self.wrong([4], TOLLS)
        self.wrong([0], [], [], 1)
        self.wrong([-1], [], [], 1)
        self.wrong([FAR], [], [], 1)
        self.wrong([-FAR], [], REQUESTS, 2)

    def test_an_amount_one_more_or_one_less(self):
        self.wrong(TAKEN, [(2, 6), (4, 6)])
        self.wrong(TAKEN, [(2, 5), (4, 7)])
        self.wrong(TAKEN, [(2, 1), (4, 6)])
        self.wrong([2], [(1, 1)], [(1, 1, 3), (1, 1, 2), (1, 1, 5)], 2)
        self.wrong([0, 2], [(1, 1)], [(1, 1, 3), (1, 1, 2), (1, 1, 5)], 2)
        self.wrong([0, 2], [(1, 4)], [(1, 1, 3), (1, 1, 2), (1, 1, 5)], 2)

    def test_a_toll_left_out_one_more_or_on_another_day(self):
        self.wrong(TAKEN, [(2, 5)])
        self.wrong(TAKEN, [(4, 6)])
        self.wrong(TAKEN, [])
        self.wrong(TAKEN, [(2, 5), (4, 6), (8, 1)])
        self.wrong(TAKEN, [(0, 5), (4, 6)])
        self.wrong(TAKEN, [(2, 5), (7, 6)])
        self.wrong([0], [(0, 5)], [(1, 1, 5)], 1)
        self.wrong([0], [(2, 5)], [(1, 1, 5)], 1)

    def test_days_of_tolls_twice_or_in_another_order(self):
        self.wrong(TAKEN, [(4, 6), (2, 5)])
        self.wrong(TAKEN, [(2, 5), (4, 3), (4, 3)])
        self.wrong([0], [(1, 2), (1, 3)], [(1, 1, 5)], 1)
        self.wrong([0], [(1, 5), (1, 0)], [(1, 1, 5)], 1)
        self.wrong([0], [(1, 5), (0, 0)], [(1, 1, 5)], 1)
        self.wrong([], [(2, 0), (1, 0)], [], 1)
        self.wrong([], [(1, 0), (1, 0)], [], 1)

    def test_amounts_below_nought(self):
        self.wrong([], [(1, -1)], [(1, 1, 0)], 1)
        self.wrong([], [(1, -1)], [], 0)
        self.wrong([], [(1, -1), (2, 1)], [], 1)
        self.wrong([0], [(1, -1), (2, 6)], [(1, 2, 5)], 1)
        self.wrong([], [(1, -1)], [(1, 1, 4)], 5)

    def test_gains_are_never_below_nought(self):
        # Were the loss of the first request counted, this would seem the best.
        self.wrong([1], [(1, 4)], [(1, 1, 3), (1, 1, 3)], 1)
        self.wrong([], [(1, 3)], [(1, 1, 1), (1, 1, 1), (1, 1, 1)], 2)

    def test_worth_less_than_the_best(self):
        self.wrong([0], [(1, 5)], [(1, 1, 3), (1, 1, 5)], 1)
        self.wrong([0], [(1, 3)], [(1, 1, 3), (1, 1, 5)], 1)
        self.wrong([], [], [(1, 1, 1)], 1)

    def test_days_far_apart_and_long_numbers(self):
        requests = [(-FAR, FAR, FAR + 10), (FAR, FAR + FAR, FAR + 3), (-FAR, FAR - 1, 7)]
        self.wrong([1, 2], [(-FAR, 7), (FAR, FAR + 2)], requests, 1)
        self.wrong([1, 2], [(-FAR, 7), (FAR, FAR + 4)], requests, 1)
        self.wrong([1, 2], [(-FAR, 7), (FAR + FAR + 1, FAR + 3)], requests, 1)
        self.wrong([0, 1], [(-FAR, 7), (FAR, FAR + 3)], requests, 1)
        self.wrong([0, 1], [], requests, 2)
        self.wrong([0, 1, 2], [], requests, 1)


class AgainstTheWordsOfTheDocument(unittest.TestCase):
    """Every choice and many tolls of small requests, held against the day for day reckoning."""

    def hold(self, requests, rooms, all_tolls):
        right = 0
        for taken in plain.choices(len(requests)):
            for tolls in all_tolls:
                asked = plain.is_best(requests, rooms, taken, tolls)
                self.assertIs(Best(taken, tolls).shows(requests, rooms), asked, (requests, rooms, taken, tolls))
                right += asked
        return right

    def test_every_pair_of_requests_for_three_days(self):
        tolls = [list(zip(range(3), amounts)) for amounts in product(range(3), repeat=3)]
        spans = [(0, 0), (1, 1), (2, 2), (0, 1), (1, 2), (0, 2)]
        for (one, other), prices in product(product(spans, repeat=2), product((0, 1, 2), repeat=2)):
            requests = [one + prices[:1], other + prices[1:]]
            for rooms in range(3):
                self.assertGreater(self.hold(requests, rooms, tolls), 0)

    def test_more_requests_with_gaps_between_the_days_of_tolls(self):
        chance = random.Random(20261116)
        right = 0
        for turn in range(150):
            requests = []
            for count in range(chance.randrange(6)):
                first = chance.randrange(-3, 4)
                requests.append((first, first + chance.randrange(4), chance.randrange(5)))
            tolls = []
            for count in range(40):
                days = sorted(chance.sample(range(-4, 8), chance.randrange(5)))
                tolls.append([(day, chance.randrange(4)) for day in days])
            right += self.hold(requests, chance.randrange(4), tolls + [[]])
        self.assertGreater(right, 200)

    def test_what_shows_is_worth_the_most(self):
        tolls = [list(zip((0, 1), amounts)) for amounts in product(range(4), repeat=2)]
        for prices in product((1, 2, 3), repeat=3):
            requests = [(0, 0, prices[0]), (0, 1, prices[1]), (1, 1, prices[2])]
            for rooms in range(3):
                most = plain.best_worth(requests, rooms)
                shown = [
                    plain.worth(requests, taken)
                    for taken in plain.choices(3) for one in tolls if Best(taken, one).shows(requests, rooms)
                ]
                self.assertEqual(set(shown), {most})

    def test_many_requests_and_tolls(self):
        count = 5000
        requests = [(day, day + 1, 2) for day in range(0, count)] + [(0, count, count + 1)]
        taken = list(range(0, count, 2))
        tolls = [(day, 1) for day in range(count + 1)]
        self.assertIs(Best(list(range(count)), []).shows(requests[:count], 2), True)
        self.assertIs(Best([count], tolls).shows(requests, 1), True)
        self.assertIs(Best(taken, tolls).shows(requests, 1), False)


if __name__ == "__main__":
    unittest.main()
