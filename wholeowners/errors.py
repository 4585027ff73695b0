"""The refusals: each stands straight under OwnError."""


class OwnError(ValueError):
    pass


class NoName(OwnError):
    pass


class Twice(OwnError):
    pass


class TooMany(OwnError):
    pass


class NoHolder(OwnError):
    pass


class NoHouse(OwnError):
    pass


class NoLoss(OwnError):
    pass


class NoShare(OwnError):
    pass


class NoText(OwnError):
    pass


class Whole(OwnError):

    def __init__(self, group):
        # The base is given a copy too, as it would otherwise keep the very list that was handed in.
        OwnError.__init__(self, list(group))
        self.group = list(group)
