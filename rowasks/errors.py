"""The refusals of rowasks: all stand under AskError, none under another."""


class AskError(ValueError):
    pass


class NoRow(AskError):
    pass


class NoAsk(AskError):
    pass


class TooLate(AskError):
    pass


class Ended(AskError):
    pass


class Unlike(AskError):
    pass


class NoText(AskError):
    pass


class NoNumber(AskError):
    pass


class NoName(AskError):
    pass


class Full(AskError):
    pass


class NoBack(AskError):
    pass
