"""The answers: each can be asked whether it is right for the requests and rooms that it was told of."""

from spantolls.requests import are_requests, are_rooms, is_request, is_whole


def is_rising(values):
    return all([one < other for one, other in zip(values, values[1:])])


def is_choice(taken, requests):
    if not isinstance(taken, list):
        return False
    return all([is_whole(count) and 0 <= count < len(requests) for count in taken]) and is_rising(taken)


def worth_of(taken, requests):
    return sum([requests[count][2] for count in taken])


def fits(taken, requests, rooms):
    # Days may lie too far apart to be walked one by one. So both kinds of days are put in order: each
    # first day must find, of the requests begun by then, all but `rooms` at an end.
    firsts = sorted([requests[count][0] for count in taken])
    lasts = sorted([requests[count][1] for count in taken])
    return all([last < first for last, first in zip(lasts, firsts[rooms:])])


def is_toll(value):
    if not isinstance(value, tuple) or len(value) != 2:
        return False
    return is_whole(value[0]) and is_whole(value[1]) and value[1] >= 0


def are_tolls(value):
    if not isinstance(value, list) or not all([is_toll(toll) for toll in value]):
        return False
    return is_rising([day for day, amount in value])


def count_below(days, day):
    low = 0
    high = len(days)
    while low < high:
        middle = (low + high) // 2
        if days[middle] < day:
            low = middle + 1
        else:
            high = middle
    return low


def sums_of(tolls):
    sums = [0]
    for day, amount in tolls:
        sums.append(sums[-1] + amount)
    return sums


def gains_of(requests, tolls):
    days = [day for day, amount in tolls]
    # A request's toll is the difference of two sums, so that no request walks all tolls.
    sums = sums_of(tolls)
    gains = 0
    for first, last, price in requests:
        toll = sums[count_below(days, last + 1)] - sums[count_below(days, first)]
        gains = gains + max(0, price - toll)
    return gains


def is_best(taken, tolls, requests, rooms):
    if not is_choice(taken, requests) or not fits(taken, requests, rooms) or not are_tolls(tolls):
        return False
    all_tolls = sum([amount for day, amount in tolls])
    return worth_of(taken, requests) == rooms * all_tolls + gains_of(requests, tolls)


def are_apart(lodgings, requests):
    stays = sorted([(room, request[0], request[1]) for room, request in zip(lodgings, requests)])
    return all([one[0] < other[0] or one[2] < other[1] for one, other in zip(stays, stays[1:])])


class Answer:
    pass


class Best(Answer):
    def __init__(self, taken, tolls):
        self.taken = list(taken)
        self.tolls = list(tolls)

    def shows(self, requests, rooms):
        if not are_requests(requests) or not are_rooms(rooms):
            return False
        return is_best(self.taken, self.tolls, requests, rooms)


class Due(Answer):
    def __init__(self, price, taken, tolls, others, other_tolls):
        self.price = price
        self.taken = list(taken)
        self.tolls = list(tolls)
        self.others = list(others)
        self.other_tolls = list(other_tolls)

    def shows(self, requests, rooms, first, last):
        asked = (first, last, self.price)
        if not are_requests(requests) or not are_rooms(rooms) or not is_request(asked):
            return False
        everyone = requests + [asked]
        if not is_best(self.taken, self.tolls, everyone, rooms):
            return False
        if not is_best(self.others, self.other_tolls, requests, rooms):
            return False
        # With a lower price the choice that has it would be worth less than the others alone,
        # with a higher one more: so both being worth as much tells that the price is the least.
        return len(requests) in self.taken and worth_of(self.taken, everyone) == worth_of(self.others, requests)


class Lodged(Answer):
    def __init__(self, rooms):
        self.rooms = list(rooms)

    def shows(self, requests, rooms):
        if not are_requests(requests) or not are_rooms(rooms):
            return False
        if not isinstance(self.rooms, list) or len(self.rooms) != len(requests):
            return False
        if not all([is_whole(room) and 0 <= room < rooms for room in self.rooms]):
            return False
        return are_apart(self.rooms, requests)


class Crowd(Answer):
    def __init__(self, day, asking):
        self.day = day
        self.asking = list(asking)

    def shows(self, requests, rooms):
        if not are_requests(requests) or not are_rooms(rooms) or not is_whole(self.day):
            return False
        if not is_choice(self.asking, requests) or len(self.asking) <= rooms:
            return False
        return all([requests[count][0] <= self.day <= requests[count][1] for count in self.asking])
