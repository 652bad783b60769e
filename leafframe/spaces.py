"""Spaces: the tree of one task, with stretches, rights and faults."""

from leafframe.errors import Barred, Taken, Unmapped
from leafframe.leaves import check_rights
from leafframe.trees import Tree


class Space:
    def __init__(self, shape, task):
        self.shape = shape
        self.task = task
        self.tree = Tree(shape)

    def lay(self, first, leaves):
        pages = self.shape.stretch(first, len(leaves))
        for page in pages:
            if self.leaf(page) is not None:
                raise Taken(page)
        for page, leaf in zip(pages, leaves):
            self.put(page, leaf)

    def lift(self, first, many):
        pages = self.shape.stretch(first, many)
        self.check_mapped(pages, "unmap")
        return [self.tree.drop(page) for page in pages]

    def change(self, first, many, rights):
        pages = self.shape.stretch(first, many)
        check_rights(rights)
        self.check_mapped(pages, "rights")
        for page in pages:
            self.put(page, self.leaf(page).righted(rights))

    def check_mapped(self, pages, deed):
        for page in pages:
            if self.leaf(page) is None:
                raise Unmapped(self.task, self.shape.address_of(page, 0), deed)

    def seek(self, address, deed):
        page = self.shape.page_of(address)
        leaf = self.leaf(page)
        if leaf is None:
            raise Unmapped(self.task, address, deed)
        if not leaf.may(deed):
            raise Barred(self.task, address, deed)
        return (page, self.shape.place_of(address), leaf)

    def leaf(self, page):
        return self.tree.leaf(page)

    def put(self, page, leaf):
        self.tree.put(page, leaf)

    def rows(self):
        return self.tree.rows()

    def tables(self):
        return self.tree.tables()

    def like(self, task):
        other = Space(self.shape, task)
        for page, leaf in self.rows():
            other.put(page, leaf)
        return other
