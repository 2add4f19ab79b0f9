"""The refusals, each a class of its own straight under StoneError."""


class StoneError(ValueError):
    pass


class NoKind(StoneError):
    pass


class NoHeap(StoneError):
    pass


class NoPlace(StoneError):
    pass


class NoNumber(StoneError):
    pass


class NoTally(StoneError):
    pass


class NotTree(StoneError):
    pass


class NotJoined(StoneError):
    pass


class NoWeights(StoneError):
    pass


class NoRow(StoneError):
    pass


class NoWeb(StoneError):
    def __init__(self, at):
        self.at = at


class NoSteps(StoneError):
    def __init__(self, at):
        self.at = at


class NoText(StoneError):
    def __init__(self, row):
        self.row = row


class TooGreat(StoneError):
    def __init__(self, many, most):
        self.many = many
        self.most = most
