"""Leaves: the rights of a page, and where its words lie. A leaf never changes."""

from leafframe.errors import NoRights

NEEDED = {"read": 1, "write": 2}


def check_rights(rights):
    if not 0 <= rights <= 3:
        raise NoRights("rights are from 0 to 3")


def lets(rights, deed):
    return rights & NEEDED[deed] != 0


class Leaf:
    def __init__(self, rights):
        check_rights(rights)
        self.rights = rights

    def may(self, deed):
        return lets(self.rights, deed)


class Fresh(Leaf):
    def row(self):
        return ("fresh", self.rights)

    def righted(self, rights):
        return Fresh(rights)


class Held(Leaf):
    def __init__(self, rights, frame):
        Leaf.__init__(self, rights)
        self.frame = frame

    def row(self):
        return ("held", self.rights, self.frame)

    def righted(self, rights):
        return Held(rights, self.frame)


class Out(Leaf):
    def __init__(self, rights, slot):
        Leaf.__init__(self, rights)
        self.slot = slot

    def row(self):
        return ("out", self.rights, self.slot)

    def righted(self, rights):
        return Out(rights, self.slot)


class Named(Leaf):
    def __init__(self, rights, name, part):
        Leaf.__init__(self, rights)
        self.name = name
        self.part = part

    def row(self):
        return ("named", self.rights, self.name, self.part)

    def righted(self, rights):
        return Named(rights, self.name, self.part)
