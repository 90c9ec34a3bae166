"""The refusals. Each stands right under RoofError, so that taking one never takes another."""


class RoofError(ValueError):
    pass


class NoFraction(RoofError):
    pass


class NoRoof(RoofError):
    pass


class TooSteep(RoofError):
    pass


class TooMany(RoofError):
    pass


class NoNumber(RoofError):
    pass


class NoCorner(RoofError):
    pass


class NoDealing(RoofError):
    pass


class NoRow(RoofError):
    pass


class NoText(RoofError):
    def __init__(self, at):
        self.at = at


class NoName(RoofError):
    def __init__(self, name):
        self.name = name
