import unittest
from collections import UserList
from copy import deepcopy
from decimal import Decimal
from fractions import Fraction

from spantolls.errors import BadDays, BadRequests, BadRooms
from spantolls.requests import check_days, check_requests, check_rooms, check_some_rooms

HUGE = 10 ** 5000

NO_NUMBERS = [
    None, True, False, "1", "", 1.0, 0.0, float("nan"), float("inf"), 1j, b"1", Fraction(1), Decimal(1),
    [], [1], (), (1,), {}, {1: 1}, {1}, object(), int, len, range(3), iter([1]),
]


class GoodRequests(unittest.TestCase):
    def test_requests_pass(self):
        for requests in (
            [],
            [(0, 0, 0)],
            [(1, 3, 5)],
            [(-3, -1, 5), (-3, 2, 0)],
            [(1, 3, 5), (1, 3, 5), (1, 3, 5)],
            [(9, 9, 1), (-9, -9, 1), (0, 1, 2)],
            [(-HUGE, HUGE, HUGE)],
            [(HUGE, HUGE, 0), (-HUGE, -HUGE, 0)],
        ):
            self.assertIsNone(check_requests(requests))

    def test_requests_stay_as_they_were(self):
        requests = [(5, 6, 7), (-1, 0, 3), (5, 6, 7)]
        before = deepcopy(requests)
        check_requests(requests)
        self.assertEqual(requests, before)

    def test_many_requests_pass(self):
        self.assertIsNone(check_requests([(day, day + 3, day) for day in range(20000)]))


class WrongRequests(unittest.TestCase):
    def refused(self, requests):
        with self.assertRaises(BadRequests) as told:
            check_requests(requests)
        self.assertIs(type(told.exception), BadRequests)

    def test_other_kinds_than_lists(self):
        for value in NO_NUMBERS + [0, 1, -1, HUGE]:
            if value != []:
                self.refused(value)

    def test_other_kinds_that_hold_requests(self):
        good = (1, 2, 3)
        self.refused((good,))
        self.refused(good)
        self.refused({good: good})
        self.refused({0: good})
        self.refused({good})
        self.refused(iter([good]))
        self.refused(one for one in [good])
        self.refused(UserList([good]))

    def test_lists_of_other_kinds_than_triples(self):
        for value in NO_NUMBERS + [0, 1, HUGE, "123", "1..2:3", {1: 1, 2: 2, 3: 3}, {1, 2, 3}, range(1, 4)]:
            self.refused([value])
            self.refused([(1, 2, 3), value])
            self.refused([value, (1, 2, 3)])

    def test_lists_for_tuples(self):
        self.refused([[1, 2, 3]])
        self.refused([(1, 2, 3), [1, 2, 3]])
        self.refused([((1, 2, 3),)])

    def test_tuples_of_another_length(self):
        for value in ((), (1,), (1, 2), (1, 2, 3, 4), (1, 2, 3, None), (1, 2, 3, 4, 5, 6)):
            self.refused([value])
            self.refused([(1, 2, 3), value])

    def test_each_place_must_be_a_whole_number(self):
        for value in NO_NUMBERS:
            self.refused([(value, 1, 1)])
            self.refused([(1, value, 1)])
            self.refused([(1, 1, value)])
            self.refused([(value, value, value)])

    def test_true_and_false_are_no_numbers(self):
        for truth in (True, False):
            self.refused([(truth, 5, 5)])
            self.refused([(-5, truth, 5)])
            self.refused([(-5, 5, truth)])

    def test_the_last_day_before_the_first(self):
        self.refused([(1, 0, 3)])
        self.refused([(0, -1, 3)])
        self.refused([(-1, -2, 3)])
        self.refused([(HUGE, HUGE - 1, 3)])
        self.refused([(1, 2, 3), (2, 1, 3)])

    def test_a_price_below_nought(self):
        self.refused([(1, 2, -1)])
        self.refused([(1, 2, -HUGE)])
        self.refused([(1, 2, 3), (1, 2, -1), (1, 2, 3)])

    def test_wrong_requests_with_numbers_too_long_to_be_written(self):
        self.refused([(HUGE, -HUGE, HUGE)])
        self.refused([(HUGE, HUGE, HUGE, HUGE)])
        self.refused([HUGE])


class Rooms(unittest.TestCase):
    def refused(self, check, rooms):
        with self.assertRaises(BadRooms) as told:
            check(rooms)
        self.assertIs(type(told.exception), BadRooms)

    def test_rooms_pass(self):
        for rooms in (0, 1, 2, 10 ** 30, HUGE):
            self.assertIsNone(check_rooms(rooms))

    def test_some_rooms_pass(self):
        for rooms in (1, 2, 10 ** 30, HUGE):
            self.assertIsNone(check_some_rooms(rooms))

    def test_no_room_is_refused_where_some_are_asked(self):
        self.refused(check_some_rooms, 0)

    def test_wrong_rooms(self):
        for value in NO_NUMBERS + [-1, -2, -HUGE]:
            self.refused(check_rooms, value)
            self.refused(check_some_rooms, value)


class Days(unittest.TestCase):
    def refused(self, first, last):
        with self.assertRaises(BadDays) as told:
            check_days(first, last)
        self.assertIs(type(told.exception), BadDays)

    def test_days_pass(self):
        for first, last in ((0, 0), (1, 2), (-2, -1), (-5, 5), (-HUGE, HUGE), (HUGE, HUGE)):
            self.assertIsNone(check_days(first, last))

    def test_the_last_day_before_the_first(self):
        for first, last in ((1, 0), (0, -1), (-1, -2), (HUGE, HUGE - 1), (HUGE, -HUGE)):
            self.refused(first, last)

    def test_no_whole_numbers(self):
        for value in NO_NUMBERS:
            self.refused(value, 5)
            self.refused(-5, value)
            self.refused(value, value)


if __name__ == "__main__":
    unittest.main()
