"""The refusals: each is an EvenError, and none of the others stands beneath another."""


class EvenError(ValueError):
    pass


class NoKind(EvenError):
    pass


class NoStep(EvenError):
    def __init__(self, at):
        EvenError.__init__(self, at)
        self.at = at


class NoText(EvenError):
    pass
