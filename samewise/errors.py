"""The refusals: each one a class of its own, so that an asker can take the one that is meant."""


class SameError(ValueError):
    pass


class NoTree(SameError):
    pass


class NoRule(SameError):
    pass


class NoRow(SameError):
    def __init__(self, line):
        self.line = line


class Full(SameError):
    pass


class Apart(SameError):
    pass


class TooBig(SameError):
    pass


class TooWide(SameError):
    pass
