"""The refusals, a class for each."""


class KeeperError(ValueError):
    pass


class Great(KeeperError):
    pass


class NoPlace(KeeperError):
    pass


class NoStep(KeeperError):
    pass


class Dry(KeeperError):
    pass


class NoVariable(KeeperError):
    pass


class NoName(KeeperError):
    pass


class NotAll(KeeperError):
    pass


class NotSome(KeeperError):
    pass


class NotSame(KeeperError):
    pass


class Unlike(KeeperError):
    pass


class NoText(KeeperError):
    pass


class NoWord(KeeperError):
    pass


class TwiceTold(KeeperError):
    pass


class NotClosed(KeeperError):
    pass
