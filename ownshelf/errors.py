"""The refusals of Ownshelf, one class for each."""


class ShelfError(ValueError):
    pass


class NoBalance(ShelfError):
    pass


class TooMany(ShelfError):
    pass


class NoPlace(ShelfError):
    pass


class NoThing(ShelfError):
    pass


class NoSum(ShelfError):
    pass


class NoMore(ShelfError):
    pass


class Changed(ShelfError):
    def __init__(self, deed):
        ShelfError.__init__(self, f"the shelf has changed: {deed!r}")
        self.deed = deed


class NoRow(ShelfError):
    pass


class NoName(ShelfError):
    pass


class NoNumber(ShelfError):
    pass


class NoWay(ShelfError):
    pass
