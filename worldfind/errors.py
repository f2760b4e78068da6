"""The refusals: each is a class of its own under WorldError."""


class WorldError(ValueError):
    pass


class NoSize(WorldError):
    pass


class NoPair(WorldError):
    pass


class NoName(WorldError):
    pass


class NoCode(WorldError):
    pass


class NoText(WorldError):
    def __init__(self, row):
        self.row = row


class Crowded(WorldError):
    pass


class TooBig(WorldError):
    def __init__(self, bits):
        self.bits = bits


class NoWorld(WorldError):
    def __init__(self, papers):
        self.papers = papers


class NoRenaming(WorldError):
    pass


class NoNumber(WorldError):
    def __init__(self, number):
        self.number = number


class Broken(WorldError):
    def __init__(self, number):
        self.number = number


class Kept(WorldError):
    def __init__(self, world):
        self.world = world


class Unlike(WorldError):
    pass


class NoRow(WorldError):
    pass


class NoStand(WorldError):
    pass
