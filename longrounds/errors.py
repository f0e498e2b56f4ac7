"""The refusals. Each stands right under LongError, so that one never passes for another."""


class LongError(ValueError):
    pass


class NoPrime(LongError):
    pass


class NoNumber(LongError):
    pass


class NoProgram(LongError):
    pass


class TooLong(LongError):
    pass


class Lossy(LongError):
    pass


class NoText(LongError):
    pass
