"""The refusals of the program, a class each."""


class SumError(ValueError):
    pass


class BadBoard(SumError):
    pass


class BadOrder(SumError):
    pass


class NoSize(SumError):
    pass


class TooOpen(SumError):
    pass
