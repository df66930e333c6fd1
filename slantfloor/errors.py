"""The refusals: one class for each, all under SlantError."""


class SlantError(ValueError):
    pass


class NoSides(SlantError):
    pass


class NoRow(SlantError):
    def __init__(self, step):
        SlantError.__init__(self, f"the row is not whole: it fails at exchange {step}")
        self.step = step


class NoFloor(SlantError):
    pass


class NoThrees(SlantError):
    pass


class NoFlip(SlantError):
    pass


class NoHeights(SlantError):
    pass


class TooMany(SlantError):
    pass


class NoHold(SlantError):
    pass


class NoTurn(SlantError):
    pass


class NoText(SlantError):
    pass
