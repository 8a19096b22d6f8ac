"""The refusals: one class for each, all straight under SightError."""


class SightError(ValueError):
    pass


class NoNumber(SightError):
    pass


class NoSpot(SightError):
    pass


class NoPlane(SightError):
    pass


class NoBoard(SightError):
    pass


class NoFrame(SightError):
    pass


class TooMany(SightError):
    pass


class NoName(SightError):
    pass


class NoDeed(SightError):
    pass


class NotFree(SightError):
    def __init__(self, board):
        self.board = board


class NoText(SightError):
    def __init__(self, row):
        self.row = row
