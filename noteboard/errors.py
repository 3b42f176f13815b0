"""The refusals: each straight under BoardError, none under another one."""


class BoardError(ValueError):
    pass


class NoLine(BoardError):
    # The base is handed just what this one is made of, so that a copy can be made of it again.
    def __init__(self, line, word):
        BoardError.__init__(self, line, word)
        self.line = line
        self.word = word


class NotReady(BoardError):
    def __init__(self, place):
        BoardError.__init__(self, place)
        self.place = place


class TooMany(BoardError):
    pass


class NoRow(BoardError):
    pass
