"""The refusals. Each has a class of its own, so that an asker can take one without taking another."""


class LotError(ValueError):
    pass


class NoNumber(LotError):
    pass


class NoDeed(LotError):
    pass


class NoText(LotError):
    pass


class NoName(LotError):
    pass


class NoRow(LotError):
    pass
