"""The refusals of midpile, one class for each."""


class MidError(ValueError):
    pass


class NoShare(MidError):
    pass


class NoThing(MidError):
    pass


class Empty(MidError):
    pass


class Twice(MidError):
    pass


class NoWidth(MidError):
    pass
