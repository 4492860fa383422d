"""The errors of the program: one class for each refusal."""


class SpanError(ValueError):
    pass


class BadRequests(SpanError):
    pass


class BadRooms(SpanError):
    pass


class BadDays(SpanError):
    pass


class BadText(SpanError):
    pass
