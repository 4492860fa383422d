"""What holds at every door of the program: names and arguments, refusals and their order, and nothing kept."""

import inspect
import unittest
from copy import deepcopy

from spantolls.answers import Best, Crowd, Due, Lodged
from spantolls.choosing import best, due, worths
from spantolls.errors import BadDays, BadRequests, BadRooms, BadText, SpanError
from spantolls.lodging import lodged
from spantolls.texts import read, written
from tests.test_requests import NO_NUMBERS

HUGE = 10 ** 5000
REQUESTS = [(7, 9, 2), (2, 3, 4), (1, 2, 5), (2, 3, 4)]

NO_TRIPLES = [
    [1, 2, 3], (1, 2), (1, 2, 3, 4), (2, 1, 3), (1, 2, -1), (HUGE, -HUGE, 0), "1..2:3", "123", 5, None, True, (),
    ((1, 2, 3),),
]
NO_REQUESTS = (
    [value for value in NO_NUMBERS if value != []]
    + [0, -1, HUGE, ((1, 2, 3),), (1, 2, 3), {(1, 2, 3): 1}, {(1, 2, 3)}]
    + [[triple] for triple in NO_TRIPLES] + [[(1, 2, 3), triple, (4, 5, 6)] for triple in NO_TRIPLES]
    + [[(value, 5, 5)] for value in NO_NUMBERS] + [[(-5, value, 5)] for value in NO_NUMBERS]
    + [[(-5, 5, value)] for value in NO_NUMBERS]
)
NO_ROOMS = NO_NUMBERS + [-1, -2, -HUGE]
NO_DAYS = (
    [(value, 5) for value in NO_NUMBERS] + [(-5, value) for value in NO_NUMBERS]
    + [(value, value) for value in NO_NUMBERS] + [(1, 0), (0, -1), (HUGE, HUGE - 1)]
)
NO_TEXTS = [value for value in NO_NUMBERS if not isinstance(value, str)] + ["", "1", " ", "1..2", REQUESTS, 0]

BY_ROOMS = [best, worths, lodged]


class Names(unittest.TestCase):
    def test_arguments(self):
        for door, names in (
            (best, ["requests", "rooms"]),
            (worths, ["requests", "rooms"]),
            (due, ["requests", "rooms", "first", "last"]),
            (lodged, ["requests", "rooms"]),
            (written, ["requests"]),
            (read, ["text"]),
        ):
            arguments = inspect.signature(door).parameters
            self.assertEqual(list(arguments), names)
            self.assertTrue(all(one.default is inspect.Parameter.empty for one in arguments.values()))

    def test_by_the_names_of_the_arguments(self):
        self.assertEqual(vars(best(rooms=1, requests=REQUESTS)), vars(best(REQUESTS, 1)))
        self.assertEqual(worths(rooms=1, requests=REQUESTS), worths(REQUESTS, 1))
        named = due(last=3, first=2, rooms=1, requests=REQUESTS)
        self.assertEqual(vars(named), vars(due(REQUESTS, 1, 2, 3)))
        self.assertEqual(vars(lodged(rooms=9, requests=REQUESTS)), vars(lodged(REQUESTS, 9)))
        self.assertEqual(read(text=written(requests=REQUESTS)), REQUESTS)

    def test_kinds(self):
        self.assertIs(type(best(REQUESTS, 1)), Best)
        self.assertIs(type(due(REQUESTS, 1, 2, 3)), Due)
        self.assertIs(type(worths(REQUESTS, 1)), list)
        self.assertIs(type(lodged(REQUESTS, 9)), Lodged)
        self.assertIs(type(lodged(REQUESTS, 1)), Crowd)
        self.assertIs(type(written(REQUESTS)), str)
        self.assertIs(type(read("-")), list)

    def test_kinds_within(self):
        for answer in (best(REQUESTS, 1), due(REQUESTS, 1, 2, 3), lodged(REQUESTS, 9), lodged(REQUESTS, 1)):
            for name, value in vars(answer).items():
                if name in ("price", "day"):
                    self.assertIs(type(value), int)
                    continue
                self.assertIs(type(value), list)
                for one in value:
                    if name in ("tolls", "other_tolls"):
                        self.assertIs(type(one), tuple)
                        self.assertEqual([type(number) for number in one], [int, int])
                    else:
                        self.assertIs(type(one), int)
        self.assertTrue(all(type(worth) is int for worth in worths(REQUESTS, 5)))


class Refusals(unittest.TestCase):
    def refused(self, refusal, door, *handed):
        with self.assertRaises(SpanError) as told:
            door(*handed)
        self.assertIs(type(told.exception), refusal, door.__name__)

    def test_no_requests(self):
        for value in NO_REQUESTS:
            for door in BY_ROOMS:
                self.refused(BadRequests, door, value, 1)
            self.refused(BadRequests, due, value, 1, 2, 3)
            self.refused(BadRequests, written, value)

    def test_no_rooms(self):
        for value in NO_ROOMS:
            for requests in (REQUESTS, []):
                for door in BY_ROOMS:
                    self.refused(BadRooms, door, requests, value)
                self.refused(BadRooms, due, requests, value, 2, 3)

    def test_no_room_is_refused_by_due_alone(self):
        for requests in (REQUESTS, []):
            self.refused(BadRooms, due, requests, 0, 2, 3)
            for door in BY_ROOMS:
                door(requests, 0)

    def test_no_days(self):
        for first, last in NO_DAYS:
            for requests in (REQUESTS, []):
                self.refused(BadDays, due, requests, 1, first, last)

    def test_no_text(self):
        for value in NO_TEXTS:
            self.refused(BadText, read, value)

    def test_requests_are_refused_ahead_of_rooms(self):
        for requests in NO_REQUESTS:
            for door in BY_ROOMS:
                self.refused(BadRequests, door, requests, -1)
        for rooms in NO_ROOMS:
            for door in BY_ROOMS:
                self.refused(BadRequests, door, [(2, 1, 0)], rooms)

    def test_requests_are_refused_ahead_of_rooms_and_days_by_due(self):
        for requests in NO_REQUESTS:
            self.refused(BadRequests, due, requests, 0, 2, 3)
            self.refused(BadRequests, due, requests, 1, 3, 2)
            self.refused(BadRequests, due, requests, None, None, None)

    def test_rooms_are_refused_ahead_of_days(self):
        for rooms in NO_ROOMS + [0]:
            self.refused(BadRooms, due, REQUESTS, rooms, 3, 2)
            self.refused(BadRooms, due, [], rooms, None, "2")
        for first, last in NO_DAYS:
            self.refused(BadRooms, due, REQUESTS, 0, first, last)

    def test_one_thing_handed_in_everywhere(self):
        for value in NO_NUMBERS:
            if value != []:
                self.refused(BadRequests, due, value, value, value, value)

    def test_wrong_requests_are_refused_though_their_numbers_are_long(self):
        self.refused(BadRequests, written, [(HUGE, -HUGE, HUGE)])
        self.refused(BadRequests, written, [(1, 2, HUGE), None])
        for door in BY_ROOMS:
            self.refused(BadRequests, door, [(HUGE, -HUGE, HUGE)], 1)


class NothingKept(unittest.TestCase):
    def doors(self):
        return [
            lambda requests: best(requests, 1), lambda requests: best(requests, 0), lambda requests: best(requests, 9),
            lambda requests: due(requests, 1, 2, 3), lambda requests: due(requests, 9, 2, 3),
            lambda requests: worths(requests, 6), lambda requests: lodged(requests, 9),
            lambda requests: lodged(requests, 1), lambda requests: written(requests),
        ]

    def told(self, answer):
        return deepcopy(answer if isinstance(answer, (list, str)) else vars(answer))

    def test_what_is_handed_in_stays_as_it_was(self):
        for door in self.doors():
            for requests in (list(REQUESTS), [], [(5, 5, 0)] * 3):
                before = list(requests)
                door(requests)
                self.assertEqual(requests, before)

    def test_requests_changed_behind_leave_the_answer_as_it_was(self):
        for door in self.doors():
            requests = list(REQUESTS)
            answer = door(requests)
            before = self.told(answer)
            requests.clear()
            requests.append((0, 100, 1000))
            self.assertEqual(self.told(answer), before)
            self.assertEqual(self.told(door(requests)), self.told(door([(0, 100, 1000)])))
            self.assertEqual(self.told(door(list(REQUESTS))), before)

    def test_what_is_told_may_be_changed(self):
        for door in self.doors():
            for requests in (list(REQUESTS), []):
                answer = door(requests)
                before = self.told(answer)
                for value in [answer] if isinstance(answer, (list, str)) else vars(answer).values():
                    if isinstance(value, list):
                        value.append((99, 99))
                        value.reverse()
                self.assertEqual(self.told(door(requests)), before)
                self.assertIn(requests, (REQUESTS, []))

    def test_no_two_fields_are_one_list(self):
        for requests in (REQUESTS, []):
            answer = due(requests, 9, 20, 21)
            lists = [value for value in vars(answer).values() if isinstance(value, list)]
            self.assertEqual(len({id(value) for value in lists}), 4)

    def test_no_list_is_told_twice(self):
        for text in ("-", "1..2:3"):
            one, other = read(text), read(text)
            self.assertIsNot(one, other)
            one.append(None)
            self.assertEqual(read(text), other)
        self.assertIsNot(worths([], 0), worths([], 0))
        for requests in (REQUESTS, []):
            self.assertIsNot(best(requests, 1).taken, best(requests, 1).taken)
            self.assertIsNot(best(requests, 9).tolls, best(requests, 9).tolls)
            self.assertIsNot(lodged(requests, 9).rooms, lodged(requests, 9).rooms)

    def test_an_answer_goes_by_its_own_fields_alone(self):
        one, other = best(REQUESTS, 1), best(REQUESTS, 1)
        one.taken.clear()
        self.assertIs(one.shows(REQUESTS, 1), False)
        self.assertIs(other.shows(REQUESTS, 1), True)


if __name__ == "__main__":
    unittest.main()
