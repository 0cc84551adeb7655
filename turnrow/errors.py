"""The refusals of the program."""


class TurnError(ValueError):
    pass


class BadRow(TurnError):
    pass


class NoTurn(TurnError):
    pass


class NoWord(TurnError):
    pass


class NoSuch(TurnError):
    pass


class NoText(TurnError):
    pass
