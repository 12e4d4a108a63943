"""The refusals, each with a class of its own."""


class ShortError(ValueError):
    pass


class NoCode(ShortError):
    pass


class NoReach(ShortError):
    pass


class NoRow(ShortError):
    pass


class NoAsk(ShortError):
    pass


class NoProgram(ShortError):
    def __init__(self, row):
        ShortError.__init__(self, f"line {row} writes no row")
        self.row = row


class NoBits(ShortError):
    def __init__(self, place):
        ShortError.__init__(self, f"nothing can be read at bit {place}")
        self.place = place
