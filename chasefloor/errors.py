"""The refusals."""


class ChaseError(ValueError):
    pass


class NoFloor(ChaseError):
    pass


class NoStanding(ChaseError):
    pass


class Caught(ChaseError):
    pass


class Free(ChaseError):
    pass


class NoNumber(ChaseError):
    pass
