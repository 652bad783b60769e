"""leafframe.trees: point [13], and [2] for it."""

import random
import unittest

from leafframe.errors import NoAddress
from leafframe.leaves import Fresh, Held, Named, Out
from leafframe.shapes import Shape
from leafframe.trees import Tree
from tests.helper import FAR_ABOVE, FAR_BELOW, Case, told_rows

SHAPES = (([1, 1], 0), ([3, 4], 2), ([1, 1, 1], 0), ([2, 3, 1], 1), ([24, 24], 6), ([24, 24, 24], 0), ([1, 24, 2], 3))


def all_shapes():
    return [Shape(widths, low) for widths, low in SHAPES]


def tables_for(shape, pages):
    """How many tables must stand for leaves at these pages: the top one, and one for each beginning."""
    starts = {()}
    for page in pages:
        indexes = shape.cut(page * shape.size())[:-1]
        starts |= {indexes[:level] for level in range(1, len(indexes))}
    return len(starts)


class TreeCase(Case):
    def holds(self, tree, shape, leaves):
        """All that the tree tells is this dict of pages and leaves."""
        rows = tree.rows()
        self.assertIs(type(rows), list)
        self.assertEqual([page for page, leaf in rows], sorted(leaves))
        for row in rows:
            self.assertIs(type(row), tuple)
            self.assertEqual(row[1].row(), leaves[row[0]].row())
            self.assertEqual(tree.leaf(row[0]).row(), leaves[row[0]].row())
        self.assertEqual(tree.tables(), tables_for(shape, leaves))


class Leaves(TreeCase):
    def test_an_empty_tree(self):
        for shape in all_shapes():
            tree = Tree(shape)
            self.holds(tree, shape, {})
            self.assertEqual(tree.tables(), 1)
            for page in (0, 1, shape.pages() - 1):
                self.assertIsNone(tree.leaf(page))
                self.assertIsNone(tree.drop(page))
            self.holds(tree, shape, {})

    def test_one_of_each_kind(self):
        shape = Shape([3, 4], 2)
        tree = Tree(shape)
        leaves = {0: Fresh(0), 1: Held(1, 2), 126: Out(2, 3), 127: Named(3, "a", 0)}
        for page, leaf in leaves.items():
            tree.put(page, leaf)
        self.holds(tree, shape, leaves)

    def test_replaced_and_dropped(self):
        for shape in all_shapes():
            for page in (0, 1, shape.pages() // 2, shape.pages() - 1):
                tree = Tree(shape)
                tree.put(page, Fresh(1))
                self.holds(tree, shape, {page: Fresh(1)})
                tree.put(page, Held(3, 4))
                self.holds(tree, shape, {page: Held(3, 4)})
                self.assertEqual(tree.drop(page).row(), ("held", 3, 4))
                self.holds(tree, shape, {})
                self.assertIsNone(tree.leaf(page))
                self.assertIsNone(tree.drop(page))
                tree.put(page, Out(2, 5))
                self.holds(tree, shape, {page: Out(2, 5)})

    def test_every_page_of_a_small_shape(self):
        for widths in ([1, 1], [2, 1], [1, 1, 1], [1, 2, 1]):
            shape = Shape(widths, 1)
            tree, leaves = Tree(shape), {}
            for page in reversed(range(shape.pages())):
                leaves[page] = Held(page % 4, page)
                tree.put(page, leaves[page])
                self.holds(tree, shape, leaves)
            for page in range(shape.pages()):
                self.assertEqual(tree.drop(page).row(), leaves.pop(page).row())
                self.holds(tree, shape, leaves)
            self.assertEqual(tree.tables(), 1)

    def test_pages_that_differ_in_one_bit(self):
        for shape in all_shapes():
            for base in (0, shape.pages() - 1, shape.pages() // 3):
                self.one_bit(shape, base)

    def one_bit(self, shape, base):
        pages = [base] + [base ^ (1 << bit) for bit in range(sum(shape.widths))]
        tree, leaves = Tree(shape), {}
        for number, page in enumerate(pages):
            self.assertIsNone(tree.leaf(page))
            self.assertIsNone(tree.drop(page))
            leaves[page] = Held(number % 4, number)
            tree.put(page, leaves[page])
        self.holds(tree, shape, leaves)
        for page in pages[1:] + pages[:1]:
            self.assertEqual(tree.drop(page).row(), leaves.pop(page).row())
            self.assertIsNone(tree.leaf(page))
            self.holds(tree, shape, leaves)
        self.assertEqual(tree.tables(), 1)

    def test_two_trees_of_one_shape_know_nothing_of_each_other(self):
        shape = Shape([3, 4], 2)
        one, other = Tree(shape), Tree(shape)
        one.put(5, Fresh(1))
        other.put(6, Fresh(2))
        self.assertIsNone(other.drop(5))
        self.holds(one, shape, {5: Fresh(1)})
        self.holds(other, shape, {6: Fresh(2)})


class Tables(TreeCase):
    def test_two_levels(self):
        tree = Tree(Shape([2, 2], 0))
        counts = []
        for page in (0, 1, 4, 15, 5):
            tree.put(page, Fresh(3))
            counts.append(tree.tables())
        for page in (15, 0, 1, 5, 4):
            tree.drop(page)
            counts.append(tree.tables())
        self.assertEqual(counts, [2, 2, 3, 4, 4, 3, 3, 2, 2, 1])

    def test_three_levels(self):
        tree = Tree(Shape([1, 1, 2], 0))
        counts = []
        for page in (0, 3, 4, 8, 15):
            tree.put(page, Fresh(3))
            counts.append(tree.tables())
        for page in (3, 0, 4, 8, 15):
            tree.drop(page)
            counts.append(tree.tables())
        self.assertEqual(counts, [3, 3, 4, 6, 7, 7, 6, 4, 3, 1])

    def test_a_drop_where_there_is_none_takes_no_table_away(self):
        tree = Tree(Shape([1, 1, 2], 0))
        tree.put(5, Fresh(3))
        for page in range(16):
            if page != 5:
                self.assertIsNone(tree.drop(page))
                self.assertIsNone(tree.leaf(page))
        self.assertEqual((tree.tables(), told_rows(tree.rows())), (3, [(5, ("fresh", 3))]))

    def test_no_room_for_all_indexes(self):
        shape = Shape([24, 24, 24], 6)
        tree, leaves = Tree(shape), {}
        for number in range(60):
            page = (number * 0x9e3779b97f4a7c15f39) % shape.pages()
            leaves[page] = Held(number % 4, number)
            tree.put(page, leaves[page])
        self.holds(tree, shape, leaves)
        self.assertEqual(tree.tables(), 121)
        for page in list(leaves):
            tree.drop(page)
        self.assertEqual((tree.tables(), tree.rows()), (1, []))


class Outside(TreeCase):
    def test_pages_outside(self):
        for shape in all_shapes():
            tree, leaves = Tree(shape), {0: Fresh(1), shape.pages() - 1: Out(2, 3)}
            for page, leaf in leaves.items():
                tree.put(page, leaf)
            for page in (-1, -shape.pages(), shape.pages(), shape.pages() + 1) + FAR_BELOW:
                self.outside(tree, page)
            for far in FAR_ABOVE:
                self.outside(tree, far + shape.pages())
            self.holds(tree, shape, leaves)

    def outside(self, tree, page):
        self.refused(NoAddress, tree.leaf, page)
        self.refused(NoAddress, tree.put, page, Fresh(3))
        self.refused(NoAddress, tree.drop, page)


class Telling(TreeCase):
    def test_told_rows_are_the_askers_own(self):
        shape = Shape([3, 4], 2)
        tree = Tree(shape)
        tree.put(3, Fresh(1))
        tree.put(100, Fresh(2))
        told = tree.rows()
        told[0] = (7, Fresh(0))
        told.append((8, Fresh(0)))
        self.holds(tree, shape, {3: Fresh(1), 100: Fresh(2)})
        Tree(shape).rows().append((1, Fresh(0)))
        kept = tree.rows()
        tree.put(4, Fresh(3))
        tree.drop(3)
        self.assertEqual(told_rows(kept), [(3, ("fresh", 1)), (100, ("fresh", 2))])

    def test_to_ask_changes_nothing(self):
        shape = Shape([2, 3, 1], 1)
        tree = Tree(shape)
        tree.put(9, Fresh(1))
        for page in range(shape.pages()):
            tree.leaf(page)
        self.holds(tree, shape, {9: Fresh(1)})


class LongRow(TreeCase):
    def test_as_a_plain_dict_would_answer(self):
        for seed, shape in enumerate(all_shapes()):
            chance = random.Random(seed)
            near = [chance.randrange(shape.pages()) for page in range(6)]
            pages = sorted(set(near + [page ^ 1 for page in near] + [page ^ (shape.pages() // 2) for page in near]))
            tree, leaves = Tree(shape), {}
            for turn in range(300):
                page = chance.choice(pages)
                if chance.randrange(2):
                    leaves[page] = Held(chance.randrange(4), chance.randrange(64))
                    tree.put(page, leaves[page])
                elif page in leaves:
                    self.assertEqual(tree.drop(page).row(), leaves.pop(page).row())
                else:
                    self.assertIsNone(tree.drop(page))
                self.holds(tree, shape, leaves)


if __name__ == "__main__":
    unittest.main()
