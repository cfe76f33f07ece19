"""The refusals of the program, a class for each."""


class SteadyError(ValueError):
    pass


class NoNumber(SteadyError):
    pass


class BadThing(SteadyError):
    pass


class BadRule(SteadyError):
    pass


class TooMany(SteadyError):
    pass


class NoRun(SteadyError):
    def __init__(self, step):
        SteadyError.__init__(self, f"step {step} cannot be made")
        self.step = step


class NotClosed(SteadyError):
    pass


class NotPlain(SteadyError):
    pass


class BadTurn(SteadyError):
    pass


class NoText(SteadyError):
    pass


class NoRow(SteadyError):
    pass
