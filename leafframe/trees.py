"""Trees of tables that lead from a page, index by index, to its leaf."""


def one_level_down(nodes, width):
    """What stands in these tables, each with the number that all indexes down to it make."""
    below = []
    for number, table in nodes:
        for index in sorted(table):
            below.append(((number << width) | index, table[index]))
    return below


def prune(path, indexes):
    """Takes empty tables out of the tables above them, from the lowest up."""
    for level in range(len(path) - 1, 0, -1):
        if len(path[level]) == 0:
            path[level - 1].pop(indexes[level - 1])


class Tree:
    def __init__(self, shape):
        self.shape = shape
        # A dict for each table: it takes room for what stands in it alone.
        self.top = {}

    def indexes(self, page):
        return self.shape.cut(self.shape.address_of(page, 0))[:-1]

    def path_to(self, indexes):
        """The tables that stand on the way down these indexes, the top one first."""
        path = [self.top]
        for index in indexes[:-1]:
            if index not in path[-1]:
                break
            path.append(path[-1][index])
        return path

    def leaf(self, page):
        node = self.top
        for index in self.indexes(page):
            if index not in node:
                return None
            node = node[index]
        return node

    def put(self, page, leaf):
        indexes = self.indexes(page)
        table = self.top
        for index in indexes[:-1]:
            table = table.setdefault(index, {})
        table[indexes[-1]] = leaf

    def drop(self, page):
        indexes = self.indexes(page)
        path = self.path_to(indexes)
        if len(path) < len(indexes):
            return None
        leaf = path[-1].pop(indexes[-1], None)
        prune(path, indexes)
        return leaf

    def rows(self):
        nodes = [(0, self.top)]
        for width in self.shape.widths:
            nodes = one_level_down(nodes, width)
        return nodes

    def tables(self):
        nodes = [(0, self.top)]
        many = len(nodes)
        for width in self.shape.widths[:-1]:
            nodes = one_level_down(nodes, width)
            many = many + len(nodes)
        return many
