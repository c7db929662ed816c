"""The refusals, each a class of its own under PotError."""


class PotError(ValueError):
    pass


class NoWares(PotError):
    pass


class NoPlan(PotError):
    pass


class NoSet(PotError):
    pass


class NoMost(PotError):
    pass


class NoAnswers(PotError):
    pass


class NoFit(PotError):
    pass


class NotTold(PotError):
    pass


class NoNote(PotError):
    pass
