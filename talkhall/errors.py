"""The refusals: one error class each, all of them below TalkError and none below another."""


class TalkError(ValueError):
    pass


class Known(TalkError):
    pass


class NoPerson(TalkError):
    pass


class NoRoom(TalkError):
    pass


class NotIn(TalkError):
    pass


class NotAsked(TalkError):
    pass


class Barred(TalkError):
    pass


class NoRight(TalkError):
    pass


class NoRow(TalkError):
    pass


class NoHand(TalkError):
    pass


class NoLine(TalkError):
    pass
