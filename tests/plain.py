"""The document's words taken one by one, day for day, to hold the program against: slow, for few and near days."""

import re
from itertools import combinations


def choices(count):
    every = range(count)
    return [list(one) for size in range(count + 1) for one in combinations(every, size)]


def asked_for(requests, day):
    return [count for count, (first, last, price) in enumerate(requests) if first <= day <= last]


def days_of(requests):
    return sorted({day for first, last, price in requests for day in range(first, last + 1)})


def worth(requests, taken):
    return sum(requests[count][2] for count in taken)


def fits(requests, rooms, taken):
    chosen = [requests[count] for count in taken]
    return all(len(asked_for(chosen, day)) <= rooms for day in days_of(chosen))


def gain(request, tolls):
    first, last, price = request
    toll_of = dict(tolls)
    return max(0, price - sum(toll_of.get(day, 0) for day in range(first, last + 1)))


def best_worth(requests, rooms):
    return max(worth(requests, taken) for taken in choices(len(requests)) if fits(requests, rooms, taken))


def is_best(requests, rooms, taken, tolls):
    held = rooms * sum(amount for day, amount in tolls) + sum(gain(request, tolls) for request in requests)
    return fits(requests, rooms, taken) and worth(requests, taken) == held


def least_price(requests, rooms, first, last):
    price = 0
    while True:
        everyone = requests + [(first, last, price)]
        most = best_worth(everyone, rooms)
        for taken in choices(len(everyone)):
            if len(requests) in taken and fits(everyone, rooms, taken) and worth(everyone, taken) == most:
                return price
        price += 1


def is_lodged(requests, rooms, lodgings):
    if len(lodgings) != len(requests) or any(not 0 <= room < rooms for room in lodgings):
        return False
    for day in days_of(requests):
        used = [lodgings[count] for count in asked_for(requests, day)]
        if len(used) != len(set(used)):
            return False
    return True


def is_crowd(requests, rooms, day, asking):
    return len(asking) > rooms and set(asking) <= set(asked_for(requests, day))


def read(text):
    """The requests that the text tells, or None if it isn't written as the document says."""
    day, price = r"(0|-?[1-9][0-9]{0,59})", r"(0|[1-9][0-9]{0,59})"
    if text == "-":
        return []
    requests = []
    for part in text.split(" "):
        found = re.fullmatch(day + r"\.\." + day + ":" + price, part)
        if not found or int(found[1]) > int(found[2]):
            return None
        requests.append((int(found[1]), int(found[2]), int(found[3])))
    return requests


def some_requests(chance, count, days=8, length=4, prices=6):
    """So many requests by chance, the first days from one below 0 on."""
    firsts = [chance.randrange(-days // 2, days // 2) for each in range(count)]
    return [(first, first + chance.randrange(length), chance.randrange(prices)) for first in firsts]
