"""leafframe.spaces: points [14], [15], and [2] for them."""

import random
import unittest

from leafframe.errors import Barred, NoAddress, NoRights, NoStretch, Unmapped
from leafframe.leaves import Fresh, Held, Named, Out
from leafframe.shapes import Shape
from leafframe.spaces import Space
from leafframe.trees import Tree
from tests.helper import FAR_ABOVE, FAR_BELOW, NO_RIGHTS, Case, bad_stretches, told_rows

TASK = 6


def space_with(leaves, shape=None):
    space = Space(shape or Shape([3, 4], 2), TASK)
    for page, leaf in leaves.items():
        space.put(page, leaf)
    return space


class SpaceCase(Case):
    def holds(self, space, leaves):
        """All that the space tells of its leaves is this dict."""
        self.assertEqual(told_rows(space.rows()), [(page, leaves[page].row()) for page in sorted(leaves)])
        for page, leaf in leaves.items():
            self.assertEqual(space.leaf(page).row(), leaf.row())
        tree = Tree(space.shape)
        for page, leaf in leaves.items():
            tree.put(page, leaf)
        self.assertEqual(space.tables(), tree.tables())


class AsItsTree(SpaceCase):
    def test_leaf_put_rows_tables(self):
        shape = Shape([2, 3, 1], 1)
        space = Space(shape, 0)
        self.assertEqual((space.rows(), space.tables(), space.leaf(5)), ([], 1, None))
        space.put(5, Fresh(1))
        space.put(60, Held(2, 3))
        space.put(5, Out(0, 4))
        self.holds(space, {5: Out(0, 4), 60: Held(2, 3)})
        self.assertEqual(space.tables(), 5)
        self.assertIsNone(space.leaf(6))

    def test_pages_outside(self):
        space = space_with({0: Fresh(1)})
        for page in (-1, 128, 129, -128) + FAR_ABOVE + FAR_BELOW:
            self.refused(NoAddress, space.leaf, page)
            self.refused(NoAddress, space.put, page, Fresh(1))
        self.holds(space, {0: Fresh(1)})

    def test_told_rows_are_the_askers_own(self):
        space = space_with({3: Fresh(1)})
        space.rows().append((4, Fresh(1)))
        space.rows()[0] = None
        self.holds(space, {3: Fresh(1)})
        kept = space.rows()
        space.lay(5, [Fresh(2)])
        space.change(3, 1, 2)
        self.assertEqual(told_rows(kept), [(3, ("fresh", 1))])


class Laying(SpaceCase):
    def test_stretches_of_each_length_at_both_ends(self):
        for many in range(1, 65):
            for first in (0, 31, 128 - many):
                space = Space(Shape([3, 4], 2), TASK)
                leaves = [Held(part % 4, part) for part in range(many)]
                space.lay(first, leaves)
                self.holds(space, {first + part: leaf for part, leaf in enumerate(leaves)})

    def test_beside_other_leaves(self):
        space = space_with({4: Fresh(1), 8: Fresh(2)})
        space.lay(5, [Fresh(3), Held(3, 0), Named(1, "a", 2)])
        self.holds(space, {4: Fresh(1), 5: Fresh(3), 6: Held(3, 0), 7: Named(1, "a", 2), 8: Fresh(2)})

    def test_no_stretch(self):
        space = space_with({0: Fresh(1), 127: Fresh(2)})
        for first, many in bad_stretches(128):
            if 0 <= many <= 66:
                self.refused(NoStretch, space.lay, first, [Fresh(3)] * many)
        self.holds(space, {0: Fresh(1), 127: Fresh(2)})

    def test_no_stretch_in_a_shape_with_fewer_pages(self):
        space = Space(Shape([1, 1], 0), TASK)
        for many in (5, 6, 64, 65):
            self.refused(NoStretch, space.lay, 0, [Fresh(3)] * many)
        space.lay(0, [Fresh(3)] * 4)
        self.assertEqual(len(space.rows()), 4)

    def test_taken_tells_the_first_such_page(self):
        leaves = {5: Fresh(1), 7: Held(0, 1), 8: Fresh(2)}
        space = space_with(leaves)
        self.taken(5, space.lay, 0, [Fresh(3)] * 64)
        self.taken(5, space.lay, 5, [Fresh(3)])
        self.taken(5, space.lay, 4, [Fresh(3)] * 2)
        self.taken(7, space.lay, 6, [Fresh(3)] * 2)
        self.taken(7, space.lay, 6, [Fresh(3)] * 4)
        self.taken(8, space.lay, 8, [Fresh(3)] * 2)
        self.holds(space, leaves)

    def test_no_stretch_ahead_of_taken(self):
        space = space_with({127: Fresh(1), 0: Fresh(2), 1: Fresh(3)})
        self.refused(NoStretch, space.lay, 127, [Fresh(3)] * 2)
        self.refused(NoStretch, space.lay, 0, [])
        self.refused(NoStretch, space.lay, 0, [Fresh(3)] * 65)
        self.refused(NoStretch, space.lay, -1, [Fresh(3)] * 3)

    def test_leaves_handed_in_are_copied_and_not_changed(self):
        space, leaves = Space(Shape([3, 4], 2), TASK), [Fresh(1), Fresh(2)]
        space.lay(0, leaves)
        leaves[0] = Held(3, 3)
        leaves.append(Fresh(0))
        self.holds(space, {0: Fresh(1), 1: Fresh(2)})
        others = [Fresh(1), Fresh(2)]
        space.lay(4, others)
        space.change(4, 2, 3)
        space.lift(4, 2)
        self.assertEqual([leaf.row() for leaf in others], [("fresh", 1), ("fresh", 2)])


class Lifting(SpaceCase):
    def test_stretches_of_each_length_at_both_ends(self):
        for many in range(1, 65):
            for first in (0, 31, 128 - many):
                leaves = {page: Held(page % 4, page) for page in range(max(first - 1, 0), min(first + many + 1, 128))}
                space = space_with(leaves)
                lifted = space.lift(first, many)
                self.assertIs(type(lifted), list)
                self.assertEqual([leaf.row() for leaf in lifted],
                                 [leaves.pop(page).row() for page in range(first, first + many)])
                self.holds(space, leaves)

    def test_no_stretch_ahead_of_unmapped(self):
        for leaves in ({}, {page: Fresh(1) for page in range(128)}):
            space = space_with(leaves)
            for first, many in bad_stretches(128):
                self.refused(NoStretch, space.lift, first, many)
            self.holds(space, leaves)

    def test_unmapped_tells_the_first_page_without_a_leaf(self):
        leaves = {3: Fresh(1), 4: Held(0, 1), 6: Fresh(2)}
        space = space_with(leaves)
        self.faulted(Unmapped, (TASK, 0, "unmap"), space.lift, 0, 1)
        self.faulted(Unmapped, (TASK, 8, "unmap"), space.lift, 2, 3)
        self.faulted(Unmapped, (TASK, 20, "unmap"), space.lift, 3, 3)
        self.faulted(Unmapped, (TASK, 20, "unmap"), space.lift, 3, 5)
        self.faulted(Unmapped, (TASK, 28, "unmap"), space.lift, 6, 2)
        self.faulted(Unmapped, (TASK, 508, "unmap"), space.lift, 127, 1)
        self.holds(space, leaves)

    def test_told_leaves_are_the_askers_own(self):
        space = space_with({3: Fresh(1), 4: Fresh(2)})
        lifted = space.lift(3, 2)
        space.lay(3, [Fresh(3), Fresh(0)])
        self.assertEqual([leaf.row() for leaf in lifted], [("fresh", 1), ("fresh", 2)])
        lifted.clear()
        self.holds(space, {3: Fresh(3), 4: Fresh(0)})


class Changing(SpaceCase):
    def test_stretches_of_each_length_at_both_ends(self):
        for many in range(1, 65):
            for first in (0, 31, 128 - many):
                leaves = {page: Held(page % 4, page) for page in range(max(first - 1, 0), min(first + many + 1, 128))}
                space = space_with(leaves)
                space.change(first, many, many % 4)
                for page in range(first, first + many):
                    leaves[page] = Held(many % 4, page)
                self.holds(space, leaves)

    def test_each_kind_and_right(self):
        for rights in range(4):
            space = space_with({1: Fresh(0), 2: Held(1, 5), 3: Out(2, 6), 4: Named(3, "a", 7), 5: Fresh(2)})
            space.change(1, 4, rights)
            self.holds(space, {1: Fresh(rights), 2: Held(rights, 5), 3: Out(rights, 6), 4: Named(rights, "a", 7),
                               5: Fresh(2)})

    def test_no_stretch_ahead_of_no_rights_and_unmapped(self):
        for leaves in ({}, {page: Fresh(1) for page in range(128)}):
            space = space_with(leaves)
            for first, many in bad_stretches(128):
                for rights in (0, 3, -1, 4):
                    self.refused(NoStretch, space.change, first, many, rights)
            self.holds(space, leaves)

    def test_no_rights_ahead_of_unmapped(self):
        leaves = {3: Fresh(1), 4: Fresh(2)}
        space = space_with(leaves)
        for rights in NO_RIGHTS:
            self.refused(NoRights, space.change, 3, 2, rights)
            self.refused(NoRights, space.change, 3, 3, rights)
            self.refused(NoRights, space.change, 0, 1, rights)
        self.holds(space, leaves)

    def test_unmapped_tells_the_first_page_without_a_leaf(self):
        leaves = {3: Fresh(1), 4: Held(0, 1), 6: Fresh(2)}
        space = space_with(leaves)
        self.faulted(Unmapped, (TASK, 0, "rights"), space.change, 0, 1, 3)
        self.faulted(Unmapped, (TASK, 8, "rights"), space.change, 2, 3, 3)
        self.faulted(Unmapped, (TASK, 20, "rights"), space.change, 3, 5, 0)
        self.faulted(Unmapped, (TASK, 28, "rights"), space.change, 6, 2, 1)
        self.faulted(Unmapped, (TASK, 508, "rights"), space.change, 127, 1, 1)
        self.holds(space, leaves)


class Seeking(SpaceCase):
    def test_each_kind_right_and_deed(self):
        for rights in range(4):
            for leaf in (Fresh(rights), Held(rights, 1), Out(rights, 2), Named(rights, "ab", 3)):
                space = space_with({9: leaf})
                for place in range(4):
                    self.seek(space, 36 + place, "read", (9, place, leaf), rights in (1, 3))
                    self.seek(space, 36 + place, "write", (9, place, leaf), rights in (2, 3))
                self.holds(space, {9: leaf})

    def seek(self, space, address, deed, found, let):
        if not let:
            self.faulted(Barred, (TASK, address, deed), space.seek, address, deed)
            return
        told = space.seek(address, deed)
        self.assertIs(type(told), tuple)
        self.assertEqual((told[:2], told[2].row()), (found[:2], found[2].row()))

    def test_at_both_ends_of_the_shape(self):
        for shape in (Shape([1, 1], 0), Shape([3, 4], 6), Shape([24, 24, 24], 6)):
            last = shape.pages() - 1
            space = space_with({0: Fresh(3), last: Held(3, 1)}, shape)
            self.seek(space, 0, "read", (0, 0, Fresh(3)), True)
            end = shape.pages() * shape.size() - 1
            self.seek(space, end, "write", (last, shape.size() - 1, Held(3, 1)), True)

    def test_unmapped(self):
        space = space_with({9: Fresh(3)})
        for deed in ("read", "write"):
            for address in (0, 35, 40, 511):
                self.faulted(Unmapped, (TASK, address, deed), space.seek, address, deed)

    def test_no_address(self):
        for space in (space_with({}), space_with({0: Fresh(0), 127: Fresh(3)})):
            for address in (-1, -512, 512, 513) + FAR_ABOVE + FAR_BELOW:
                for deed in ("read", "write"):
                    self.refused(NoAddress, space.seek, address, deed)

    def test_a_task_of_any_number(self):
        for task in (0, 1, 199, 1 << 70):
            space = Space(Shape([1, 1], 1), task)
            self.faulted(Unmapped, (task, 3, "read"), space.seek, 3, "read")
            space.put(1, Fresh(2))
            self.faulted(Barred, (task, 3, "read"), space.seek, 3, "read")
            self.faulted(Unmapped, (task, 0, "unmap"), space.lift, 0, 2)
            self.faulted(Unmapped, (task, 4, "rights"), space.change, 1, 2, 0)


class Like(SpaceCase):
    def test_like_leaves_that_go_on_apart(self):
        leaves = {0: Fresh(1), 5: Held(2, 3), 6: Out(0, 4), 127: Named(3, "a", 1)}
        space = space_with(leaves)
        other = space.like(9)
        self.holds(other, leaves)
        other.change(5, 2, 1)
        other.lay(50, [Fresh(3)])
        self.holds(space, leaves)
        space.lift(0, 1)
        space.put(127, Fresh(0))
        self.holds(space, {5: Held(2, 3), 6: Out(0, 4), 127: Fresh(0)})
        self.holds(other, {0: Fresh(1), 5: Held(1, 3), 6: Out(1, 4), 50: Fresh(3), 127: Named(3, "a", 1)})

    def test_each_with_its_own_task_in_its_faults(self):
        space = space_with({3: Fresh(0)})
        other = space.like(9)
        third = other.like(0)
        for one, task in ((space, TASK), (other, 9), (third, 0)):
            self.faulted(Barred, (task, 13, "read"), one.seek, 13, "read")
            self.faulted(Unmapped, (task, 1, "write"), one.seek, 1, "write")
            self.faulted(Unmapped, (task, 16, "unmap"), one.lift, 3, 2)
            self.faulted(Unmapped, (task, 16, "rights"), one.change, 3, 2, 1)

    def test_of_an_empty_space(self):
        other = space_with({}).like(2)
        self.assertEqual((other.rows(), other.tables()), ([], 1))

    def test_of_the_same_shape(self):
        other = space_with({}, Shape([2, 3, 1], 1)).like(2)
        self.refused(NoAddress, other.seek, 128, "read")
        self.faulted(Unmapped, (2, 127, "read"), other.seek, 127, "read")


class LongRow(SpaceCase):
    def test_as_a_plain_dict_would_answer(self):
        chance = random.Random(14)
        space, leaves = Space(Shape([2, 2], 1), TASK), {}
        for turn in range(1500):
            first, many = chance.randrange(-1, 17), chance.randrange(6)
            getattr(self, chance.choice(("lay", "lift", "change")))(chance, space, leaves, first, many)
            self.holds(space, leaves)

    def lay(self, chance, space, leaves, first, many):
        new = [Held(chance.randrange(4), chance.randrange(9)) for part in range(many)]
        pages = range(first, first + many)
        there = [page for page in pages if page in leaves]
        if not (1 <= many and 0 <= first and first + many <= 16):
            self.refused(NoStretch, space.lay, first, new)
        elif there:
            self.taken(there[0], space.lay, first, new)
        else:
            space.lay(first, new)
            leaves.update(zip(pages, new))

    def lift(self, chance, space, leaves, first, many):
        pages = range(first, first + many)
        missing = [page for page in pages if page not in leaves]
        if not (1 <= many and 0 <= first and first + many <= 16):
            self.refused(NoStretch, space.lift, first, many)
        elif missing:
            self.faulted(Unmapped, (TASK, missing[0] * 2, "unmap"), space.lift, first, many)
        else:
            lifted = space.lift(first, many)
            self.assertEqual([leaf.row() for leaf in lifted], [leaves.pop(page).row() for page in pages])

    def change(self, chance, space, leaves, first, many):
        pages, rights = range(first, first + many), chance.randrange(-1, 5)
        missing = [page for page in pages if page not in leaves]
        if not (1 <= many and 0 <= first and first + many <= 16):
            self.refused(NoStretch, space.change, first, many, rights)
        elif not 0 <= rights <= 3:
            self.refused(NoRights, space.change, first, many, rights)
        elif missing:
            self.faulted(Unmapped, (TASK, missing[0] * 2, "rights"), space.change, first, many, rights)
        else:
            space.change(first, many, rights)
            leaves.update({page: Held(rights, leaves[page].frame) for page in pages})


if __name__ == "__main__":
    unittest.main()
