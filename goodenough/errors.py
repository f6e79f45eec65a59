"""The refusals: one class for each, all under EnoughError."""


class EnoughError(ValueError):
    pass


class NoShare(EnoughError):
    pass


class NoLengths(EnoughError):
    pass


class TooMany(EnoughError):
    pass


class NoCover(EnoughError):

    def __init__(self, thing):
        self.thing = thing


class NoRoom(EnoughError):

    def __init__(self, thing):
        self.thing = thing


class NoText(EnoughError):

    def __init__(self, line):
        self.line = line
