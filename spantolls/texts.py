"""Requests written as a text, and read again."""

from spantolls.errors import BadRequests, BadText
from spantolls.requests import check_requests

NONE = "-"
FIGURES = "0123456789"
MOST_FIGURES = 60


def has_few_figures(number):
    # Reckoned, not written out: the number may be too long for Python to write.
    return abs(number) < 10 ** 60


def written(requests):
    check_requests(requests)
    for request in requests:
        if not all([has_few_figures(number) for number in request]):
            raise BadRequests("numbers of more than sixty figures are not written")
    if len(requests) == 0:
        return NONE
    return " ".join([f"{first}..{last}:{price}" for first, last, price in requests])


def read_figures(text):
    if not 1 <= len(text) <= MOST_FIGURES or not all([sign in FIGURES for sign in text]):
        raise BadText("a number is one figure to sixty")
    if text.startswith("0") and text != "0":
        raise BadText("a number has no needless nought")
    return int(text)


def read_day(text):
    if not text.startswith("-"):
        return read_figures(text)
    size = read_figures(text[1:])
    if size == 0:
        raise BadText("the day 0 has no sign")
    return -size


def read_request(text):
    days_and_price = text.partition(":")
    days = days_and_price[0].partition("..")
    first = read_day(days[0])
    last = read_day(days[2])
    if last < first:
        raise BadText("the last day is less than the first")
    return (first, last, read_figures(days_and_price[2]))


def read(text):
    if not isinstance(text, str):
        raise BadText("what is read is a text")
    if text == NONE:
        return []
    return [read_request(part) for part in text.split(" ")]
