"""What requests, rooms and days are, and the refusal of whatever is none."""

from spantolls.errors import BadDays, BadRequests, BadRooms

# No refusal writes out what was handed in: it may be a number too long for Python to write.


def is_whole(value):
    # Python takes True and False for numbers; the document doesn't.
    return isinstance(value, int) and not isinstance(value, bool)


def are_days(first, last):
    return is_whole(first) and is_whole(last) and first <= last


def is_request(value):
    if not isinstance(value, tuple) or len(value) != 3:
        return False
    return are_days(value[0], value[1]) and is_whole(value[2]) and value[2] >= 0


def are_requests(value):
    return isinstance(value, list) and all([is_request(request) for request in value])


def are_rooms(value):
    return is_whole(value) and value >= 0


def check_requests(requests):
    if not are_requests(requests):
        raise BadRequests("requests are a list of triples: first day, last day, price of 0 or more")


def check_rooms(rooms):
    if not are_rooms(rooms):
        raise BadRooms("rooms are a whole number, 0 or more")


def check_some_rooms(rooms):
    if not are_rooms(rooms) or rooms == 0:
        raise BadRooms("rooms are a whole number, here 1 or more")


def check_days(first, last):
    if not are_days(first, last):
        raise BadDays("days are two whole numbers, the last one no less than the first")
