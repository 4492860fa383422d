"""A room for each request, or a day that more ask for than there are rooms."""

from spantolls.answers import Crowd, Lodged
from spantolls.requests import check_requests, check_rooms

LEAVES = 0
COMES = 1


def turns_of(requests):
    # A request leaves on the day behind its last one, and ahead of all that come on that day: so its room is free
    # for them.
    leaving = [(request[1] + 1, LEAVES, count) for count, request in enumerate(requests)]
    coming = [(request[0], COMES, count) for count, request in enumerate(requests)]
    return sorted(leaving + coming)


def asking_for(requests, day):
    return [count for count, request in enumerate(requests) if request[0] <= day <= request[1]]


def lodged(requests, rooms):
    check_requests(requests)
    check_rooms(rooms)
    lodgings = [0] * len(requests)
    free = []
    opened = 0
    for day, turn, count in turns_of(requests):
        if turn == LEAVES:
            free.append(lodgings[count])
        elif free:
            lodgings[count] = free.pop()
        elif opened < rooms:
            lodgings[count] = opened
            opened += 1
        else:
            return Crowd(day, asking_for(requests, day))
    return Lodged(lodgings)
