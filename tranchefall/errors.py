"""The refusals: each bears the number of the row that is refused."""


class DealError(ValueError):
    def __init__(self, words, place):
        ValueError.__init__(self, words)
        self.place = place


class BadRow(DealError):
    pass


class Misplaced(DealError):
    pass


class Unfinished(DealError):
    pass


class Twice(DealError):
    pass


class NoName(DealError):
    pass


class Unguarded(DealError):
    pass


class TooMany(DealError):
    pass
