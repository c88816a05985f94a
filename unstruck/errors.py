"""The refusals of the program, one class for each."""


class BoardError(ValueError):
    pass


class NoBoard(BoardError):
    pass


class NoPlacing(BoardError):
    pass


class NoStair(BoardError):
    def __init__(self, rows=None):
        self.rows = rows


class TooGreat(BoardError):
    pass
