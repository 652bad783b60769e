"""Shares: stretches that tasks have together, under names."""

from leafframe.errors import NoName, NoShare, Unlike
from leafframe.leaves import Fresh

MOST_LETTERS = 8
BOTH_RIGHTS = 3


def check_name(name):
    if not 1 <= len(name) <= MOST_LETTERS:
        raise NoName("a name has from one to eight letters")
    for letter in name:
        if not "a" <= letter <= "z":
            raise NoName("a name has letters from a to z alone")


class Share:
    def __init__(self, many):
        self.leaves = [Fresh(BOTH_RIGHTS) for part in range(many)]
        self.uses = 0


class Shares:
    def __init__(self):
        self.kept = {}

    def fits(self, name, many):
        check_name(name)
        share = self.kept.get(name)
        if share is not None and len(share.leaves) != many:
            raise Unlike("the share has another number of parts")

    def use(self, name, many):
        self.fits(name, many)
        if name not in self.kept:
            self.kept[name] = Share(many)
        share = self.share(name)
        share.uses = share.uses + many

    def share(self, name):
        if name not in self.kept:
            raise NoShare("no share stands under the name")
        return self.kept[name]

    def share_with(self, name, part):
        share = self.share(name)
        if not 0 <= part < len(share.leaves):
            raise NoShare("the share has no such part")
        return share

    def more(self, name):
        share = self.share(name)
        share.uses = share.uses + 1

    def less(self, name):
        share = self.share(name)
        share.uses = share.uses - 1
        if share.uses > 0:
            return []
        self.kept.pop(name)
        return list(share.leaves)

    def leaf(self, name, part):
        return self.share_with(name, part).leaves[part]

    def put(self, name, part, leaf):
        share = self.share_with(name, part)
        share.leaves[part] = leaf

    def parts(self, name):
        return list(self.share(name).leaves)

    def rows(self):
        return [(name, len(self.kept[name].leaves), self.kept[name].uses) for name in sorted(self.kept)]
