"""The refusals: one class for each, so that an asker can take just the one that is meant."""


class PlaneError(ValueError):
    pass


class NoRatio(PlaneError):
    pass


class NoText(PlaneError):
    pass


class NoDeed(PlaneError):
    pass


class NoInverse(PlaneError):
    pass


class NoPoint(PlaneError):
    pass


class NotSure(PlaneError):
    pass


class NoColumn(PlaneError):
    pass


class NoMark(PlaneError):
    pass


class NoName(PlaneError):
    pass


class NoLine(PlaneError):
    pass
