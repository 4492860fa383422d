import random
import unittest
from itertools import product

from spantolls.answers import Best, Due
from tests import plain

FAR = 10 ** 400

REQUESTS = [(1, 2, 5), (2, 3, 4)]
# For day 1 in one room: to give way to it, request 1 takes the place of request 0.
FIELDS = {"price": 1, "taken": [1, 2], "tolls": [(1, 1), (2, 4)], "others": [0], "other_tolls": [(2, 5)]}


class RightOnes(unittest.TestCase):
    def right(self, due, requests, rooms, first, last):
        self.assertIs(due.shows(requests, rooms, first, last), True)

    def test_one_room(self):
        self.right(Due(**FIELDS), REQUESTS, 1, 1, 1)
        self.right(Due(5, [2], [(1, 1), (2, 4)], [0], [(2, 5)]), REQUESTS, 1, 1, 3)
        self.right(Due(5, [2], [(2, 5)], [0], [(1, 1), (2, 4)]), REQUESTS, 1, 2, 2)

    def test_price_of_nought_where_a_room_is_free(self):
        self.right(Due(0, [0, 2], [(2, 5)], [0], [(2, 5)]), REQUESTS, 1, 3, 3)
        self.right(Due(0, [0, 2], [(2, 5)], [0], [(2, 5)]), REQUESTS, 1, 10, 12)
        self.right(Due(0, [0, 1, 2], [], [0, 1], []), REQUESTS, 3, 1, 3)

    def test_as_much_as_the_cheapest_of_those_that_fill_the_rooms(self):
        requests = [(1, 1, 3), (1, 1, 2), (1, 1, 5)]
        self.right(Due(3, [2, 3], [(1, 3)], [0, 2], [(1, 2)]), requests, 2, 1, 1)
        self.right(Due(2, [0, 2, 3], [(1, 2)], [0, 1, 2], []), requests, 3, 1, 1)
        self.right(Due(5, [3], [(1, 5)], [2], [(1, 5)]), requests, 1, 1, 1)

    def test_no_requests(self):
        self.right(Due(0, [0], [], [], []), [], 1, 4, 4)
        self.right(Due(0, [0], [], [], [(4, 0)]), [], 7, -4, 4)

    def test_days_far_apart_and_long_numbers(self):
        requests = [(-FAR, 0, FAR), (1, FAR, FAR + 1)]
        taken, tolls = [2], [(-FAR, FAR), (FAR, FAR + 1)]
        self.right(Due(FAR + FAR + 1, taken, tolls, [0, 1], tolls), requests, 1, -FAR, FAR)
        self.right(Due(0, [0, 1, 2], [], [0, 1], []), requests, 2, -FAR, FAR)
        self.right(Due(0, [0, 1, 2], [], [0, 1], []), requests, FAR, -FAR - 1, FAR + 1)


class WrongOnes(unittest.TestCase):
    def wrong(self, requests=REQUESTS, rooms=1, first=1, last=1, **changed):
        fields = dict(FIELDS)
        fields.update(changed)
        self.assertIs(Due(**fields).shows(requests, rooms, first, last), False, (fields, requests, rooms, first, last))

    def test_a_price_one_more_or_one_less(self):
        self.wrong(price=0)
        self.wrong(price=2)
        self.wrong(price=-1)

    def test_a_price_too_high_though_its_choice_is_the_best(self):
        tolls = [(1, 2), (2, 4)]
        self.assertIs(Best([1, 2], tolls).shows(REQUESTS + [(1, 1, 2)], 1), True)
        self.wrong(price=2, tolls=tolls)

    def test_a_price_too_low_though_the_choices_are_the_best(self):
        self.assertIs(Best([0], [(2, 5)]).shows(REQUESTS + [(1, 1, 0)], 1), True)
        self.wrong(price=0, taken=[0], tolls=[(2, 5)])

    def test_a_choice_without_the_request(self):
        self.assertIs(Best([0], [(1, 1), (2, 4)]).shows(REQUESTS + [(1, 1, 1)], 1), True)
        self.wrong(taken=[0])
        self.wrong(taken=[1])
        self.wrong(taken=[])

    def test_a_price_below_nought(self):
        self.wrong(requests=[], price=-1, taken=[0], tolls=[], others=[], other_tolls=[])
        self.wrong(requests=[], price=-1, taken=[], tolls=[], others=[], other_tolls=[])

    def test_counts_left_out_twice_in_another_order_or_beyond(self):
        self.wrong(taken=[2])
        self.wrong(taken=[2, 1])
        self.wrong(taken=[1, 2, 2])
        self.wrong(taken=[0, 1, 2])
        self.wrong(taken=[1, 3])
        self.wrong(taken=[1, 2, 3])
        self.wrong(taken=[-2, 2])
        self.wrong(others=[])
        self.wrong(others=[1])
        self.wrong(others=[0, 0])
        self.wrong(others=[0, 1])
        self.wrong(others=[-2])
        self.wrong(others=[2])

    def test_the_request_is_none_of_the_others(self):
        self.wrong(requests=[], price=0, taken=[0], tolls=[], others=[0], other_tolls=[])

    def test_wrong_tolls(self):
        for name in ("tolls", "other_tolls"):
            for tolls in (
                [], [(2, 3)], [(2, 6)], [(1, 5)], [(1, 1), (2, 3)], [(1, 1), (2, 5)], [(2, 4), (1, 1)],
                [(1, 1), (2, 2), (2, 2)], [(1, 1), (2, 4), (4, 1)], [(0, -1), (1, 1), (2, 4), (4, 1)],
            ):
                self.wrong(**{name: tolls})

    def test_the_tolls_of_the_two_choices_in_each_others_place(self):
        requests = [(1, 1, 3), (1, 1, 2), (1, 1, 5)]
        right = {"price": 3, "taken": [2, 3], "tolls": [(1, 3)], "others": [0, 2], "other_tolls": [(1, 2)]}
        self.assertIs(Due(**right).shows(requests, 2, 1, 1), True)
        right["tolls"], right["other_tolls"] = right["other_tolls"], right["tolls"]
        self.wrong(requests=requests, rooms=2, **right)

    def test_other_rooms_days_or_requests(self):
        self.wrong(rooms=2)
        self.wrong(first=0, last=0)
        self.wrong(first=1, last=2)
        self.wrong(first=2, last=2)
        self.wrong(requests=[(1, 2, 6), (2, 3, 4)])
        self.wrong(requests=[(1, 2, 4), (2, 3, 4)])
        self.wrong(requests=REQUESTS[:1])
        self.wrong(requests=REQUESTS + [(9, 9, 0)])
        self.wrong(requests=[])

    def test_of_no_room_nothing_is_due(self):
        self.wrong(requests=[], rooms=0, price=0, taken=[0], tolls=[], others=[], other_tolls=[])
        self.wrong(requests=[], rooms=0, price=0, taken=[], tolls=[], others=[], other_tolls=[])
        self.wrong(rooms=0, price=0, taken=[2], tolls=[(2, 9)], others=[], other_tolls=[(2, 9)])

    def test_of_days_the_last_of_which_is_less_nothing_is_due(self):
        self.wrong(requests=[], first=2, last=1, price=0, taken=[0], tolls=[], others=[], other_tolls=[])
        self.wrong(first=1, last=0)
        self.wrong(first=FAR, last=-FAR, price=0, taken=[0, 2], tolls=[(2, 5)])

    def test_days_far_apart_and_long_numbers(self):
        tolls = [(-FAR, FAR), (FAR, FAR + 1)]
        far = {
            "requests": [(-FAR, 0, FAR), (1, FAR, FAR + 1)], "first": -FAR, "last": FAR,
            "taken": [2], "tolls": tolls, "others": [0, 1], "other_tolls": tolls,
        }
        self.wrong(price=FAR + FAR, **far)
        self.wrong(price=FAR + FAR + 2, **far)
        self.wrong(price=-FAR - FAR - 1, **far)


class AgainstTheWordsOfTheDocument(unittest.TestCase):
    """Prices, choices and tolls of small requests, held against the least price found by trying each."""

    def reckoned(self, fields, requests, rooms, first, last, least):
        price, taken, tolls, others, other_tolls = fields
        everyone = requests + [(first, last, price)]
        return (
            price == least and len(requests) in taken
            and plain.is_best(everyone, rooms, taken, tolls)
            and plain.is_best(requests, rooms, others, other_tolls)
        )

    def hold(self, requests, rooms, first, last):
        least = plain.least_price(requests, rooms, first, last)
        tolls = [list(zip((0, 1), amounts)) for amounts in product(range(3), repeat=2)]
        others = [
            (taken, one) for taken in plain.choices(len(requests)) for one in tolls
            if plain.is_best(requests, rooms, taken, one)
        ]
        others = others[:3] + [([], []), (list(range(len(requests))), tolls[4])]
        right = 0
        for price in range(least + 2):
            for taken, one, (other, other_tolls) in product(plain.choices(len(requests) + 1), tolls, others):
                fields = (price, taken, one, other, other_tolls)
                asked = self.reckoned(fields, requests, rooms, first, last, least)
                self.assertIs(Due(*fields).shows(requests, rooms, first, last), asked, (fields, requests, rooms))
                right += asked
        return right

    def test_pairs_of_requests_for_two_days(self):
        spans = [(0, 0), (1, 1), (0, 1)]
        for one, other, days in product(spans, repeat=3):
            for prices in ((1, 1), (1, 2), (2, 0)):
                for rooms in (1, 2):
                    requests = [one + prices[:1], other + prices[1:]]
                    self.assertGreater(self.hold(requests, rooms, *days), 0, (requests, rooms, days))

    def test_three_requests(self):
        chance = random.Random(5)
        for turn in range(25):
            spans = [chance.choice([(0, 0), (1, 1), (0, 1)]) for count in range(4)]
            requests = [span + (chance.randrange(3),) for span in spans[:3]]
            self.hold(requests, chance.choice((1, 2)), *spans[3])


if __name__ == "__main__":
    unittest.main()
