"""The refusals of the program, one class for each."""


class NetError(ValueError):
    pass


class NoPlace(NetError):
    pass


class NoLetter(NetError):
    pass


class NoCheck(NetError):
    pass


class NoDeed(NetError):
    pass


class NoNet(NetError):
    def __init__(self, place):
        self.place = place


class NoText(NetError):
    pass


class NotFormed(NetError):
    pass
