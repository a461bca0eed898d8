"""The refusals: one class for each, so that an asker can tell them apart."""


class KinError(ValueError):
    pass


class NoMachine(KinError):
    pass


class TooBig(KinError):
    pass


class NoState(KinError):
    pass


class NoDeed(KinError):
    pass


class NoText(KinError):
    pass


class NoFrame(KinError):
    pass


class NoScroll(KinError):
    pass


class NoName(KinError):
    pass


class NoRow(KinError):
    pass
