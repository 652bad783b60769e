"""The refusals: one class for each, all of them under LeafError."""


class LeafError(ValueError):
    pass


class NoShape(LeafError):
    pass


class NoAddress(LeafError):
    pass


class NoStretch(LeafError):
    pass


class NoNumber(LeafError):
    pass


class Full(LeafError):
    pass


class NoWord(LeafError):
    pass


class NoRights(LeafError):
    pass


class NoTask(LeafError):
    pass


class NoName(LeafError):
    pass


class NoShare(LeafError):
    pass


class Unlike(LeafError):
    pass


class NoText(LeafError):
    pass


class NoRow(LeafError):
    pass


class Taken(LeafError):
    def __init__(self, page):
        LeafError.__init__(self, page)
        self.page = page


class Fault(LeafError):
    def __init__(self, task, address, deed):
        LeafError.__init__(self, task, address, deed)
        self.task = task
        self.address = address
        self.deed = deed


class Unmapped(Fault):
    pass


class Barred(Fault):
    pass
