"""The refusals, one class for each, all straight under BookError."""


class BookError(ValueError):
    pass


class BadText(BookError):
    pass


class BadBody(BookError):
    pass


class BadNumber(BookError):
    pass


class BadCount(BookError):
    pass


class Founded(BookError):
    pass


class Unfounded(BookError):
    pass


class Doubled(BookError):
    pass


class AtOdds(BookError):
    def __init__(self, ring):
        self.ring = ring


class Unanswered(BookError):
    pass


class Spent(BookError):
    pass


class BadSource(BookError):
    def __init__(self, line):
        self.line = line
