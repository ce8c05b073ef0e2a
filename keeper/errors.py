"""The refusals, a class for each."""


# A class can't be asked what it is called, so each one tells it: the desk answers with that.
class KeeperError(ValueError):
    def small_name(self):
        return "keepererror"


class Great(KeeperError):
    def small_name(self):
        return "great"


class NoPlace(KeeperError):
    def small_name(self):
        return "noplace"


class NoStep(KeeperError):
    def small_name(self):
        return "nostep"


class Dry(KeeperError):
    def small_name(self):
        return "dry"


class NoVariable(KeeperError):
    def small_name(self):
        return "novariable"


class NoName(KeeperError):
    def small_name(self):
        return "noname"


class NotAll(KeeperError):
    def small_name(self):
        return "notall"


class NotSome(KeeperError):
    def small_name(self):
        return "notsome"


class NotSame(KeeperError):
    def small_name(self):
        return "notsame"


class Unlike(KeeperError):
    def small_name(self):
        return "unlike"


class NoText(KeeperError):
    def small_name(self):
        return "notext"


class NoWord(KeeperError):
    def small_name(self):
        return "noword"


class TwiceTold(KeeperError):
    def small_name(self):
        return "twicetold"


class NotClosed(KeeperError):
    def small_name(self):
        return "notclosed"
