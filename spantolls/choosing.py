"""The best choice, the best worths by ever more rooms, and what a further request has to offer."""

from spantolls.answers import Best, Due, worth_of
from spantolls.requests import check_days, check_requests, check_rooms, check_some_rooms


def points_of(requests):
    # From one point up to the next all days are asked for by the same requests. So one step stands for
    # all of them, however many they are.
    firsts = [first for first, last, price in requests]
    ends = [last + 1 for first, last, price in requests]
    return sorted(set(firsts + ends))


def sweep(moves, heights, ways):
    changed = False
    for start, end, gain, count in moves:
        if heights[start] + gain > heights[end]:
            heights[end] = heights[start] + gain
            ways[end] = (start, count)
            changed = True
    return changed


# The points of the requests in a row, with a choice that is best by so many rooms. A way from the first point to the
# last is what one room more could bring: onward it takes a request or leaves the new room idle, backward it gives up
# a request or fills a room that is idle. A point's height is the most that a way up to it gains. So the last height
# is what one room more is worth, and the rises from point to point are tolls that show the choice to be best: none
# where a room is idle, no more than the price of a request that is taken, no less than that of one that is not.
class Line:
    def __init__(self, requests, taken, rooms):
        self.rooms = rooms
        self.points = points_of(requests)
        places = dict([(point, place) for place, point in enumerate(self.points)])
        self.moves = [
            (places[request[0]], places[request[1] + 1], request[2], count) for count, request in enumerate(requests)
        ]
        self.has = [False] * len(requests)
        for count in taken:
            self.has[count] = True
        self.heights = []
        self.ways = []
        self.climb()

    def rooms_used(self):
        changes = [0] * len(self.points)
        for start, end, price, count in self.moves:
            if self.has[count]:
                changes[start] += 1
                changes[end] -= 1
        used = []
        now = 0
        for change in changes[:-1]:
            now += change
            used.append(now)
        return used

    def moves_onward(self):
        idle = [(place, place + 1, 0, None) for place in range(len(self.points) - 1)]
        taking = [move for move in self.moves if not self.has[move[3]]]
        return sorted(idle + taking, key=lambda move: move[0])

    def moves_backward(self):
        filling = [(place + 1, place, 0, None) for place, used in enumerate(self.rooms_used()) if used < self.rooms]
        giving_up = [(end, start, -price, count) for start, end, price, count in self.moves if self.has[count]]
        return sorted(filling + giving_up, key=lambda move: move[0], reverse=True)

    def climb(self):
        self.heights = [0] * len(self.points)
        self.ways = [(place - 1, None) for place in range(len(self.points))]
        onward = self.moves_onward()
        backward = self.moves_backward()
        # In the order of their starts one sweep settles all moves of one direction. It comes to an end, as
        # the choice is best: no way round to the same point gains anything.
        changed = True
        while changed:
            changed = sweep(onward, self.heights, self.ways) and sweep(backward, self.heights, self.ways)

    def growth(self):
        return max(self.heights, default=0)

    def add_room(self):
        place = len(self.points) - 1
        while place > 0:
            way = self.ways[place]
            if way[1] is not None:
                self.has[way[1]] = not self.has[way[1]]
            place = way[0]
        self.rooms += 1
        self.climb()

    def choice(self):
        return [count for count, had in enumerate(self.has) if had]

    def day_tolls(self):
        rises = [high - low for low, high in zip(self.heights, self.heights[1:])]
        return [(point, rise) for point, rise in zip(self.points, rises) if rise > 0]


def filled(requests, rooms):
    # Where one room more is worth nothing, no toll is left, and so the choice is best by all further rooms too.
    line = Line(requests, [], 0)
    while line.rooms < rooms and line.growth() > 0:
        line.add_room()
    return line


def best(requests, rooms):
    check_requests(requests)
    check_rooms(rooms)
    line = filled(requests, rooms)
    return Best(line.choice(), line.day_tolls())


def worths(requests, rooms):
    check_requests(requests)
    check_rooms(rooms)
    line = Line(requests, [], 0)
    told = [0]
    while line.rooms < rooms and line.growth() > 0:
        told.append(told[-1] + line.growth())
        line.add_room()
    return told + [told[-1]] * (rooms - line.rooms)


def due(requests, rooms, first, last):
    check_requests(requests)
    check_some_rooms(rooms)
    check_days(first, last)
    alone = filled(requests, rooms)
    others = alone.choice()
    # A request that offers more than all others together is in every best choice, and what is chosen beside
    # it is the best there, whatever it offers. Its count is the highest, so it stands last.
    plenty = sum([price for start, end, price in requests]) + 1
    taken = filled(requests + [(first, last, plenty)], rooms).choice()
    price = worth_of(others, requests) - worth_of(taken[:-1], requests)
    tolls = Line(requests + [(first, last, price)], taken, rooms).day_tolls()
    return Due(price, taken, tolls, others, alone.day_tolls())
