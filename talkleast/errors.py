"""The errors of the package, one for each refusal."""


class TalkError(ValueError):
    pass


class NoTable(TalkError):
    pass


class NoCard(TalkError):
    pass


class NoPlan(TalkError):
    pass


class NoWord(TalkError):
    pass


class NoCode(TalkError):
    pass


class TooGreat(TalkError):
    pass


class NoText(TalkError):
    pass


class NoAsk(TalkError):
    pass
