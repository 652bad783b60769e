"""leafframe.leaves: point [12], and [2] for it."""

import unittest

from leafframe.errors import NoRights
from leafframe.leaves import Fresh, Held, Leaf, Named, Out
from tests.helper import FAR_ABOVE, FAR_BELOW, Case

# kind, what it is made of beside the rights, the names of its fields, the first part of its row
KINDS = (
    (Fresh, (), (), "fresh"),
    (Held, (5,), ("frame",), "held"),
    (Out, (7,), ("slot",), "out"),
    (Named, ("pool", 2), ("name", "part"), "named"),
)
NO_RIGHTS = (-1, -2, -3, -4, 4, 5, 7, 8, 255) + FAR_ABOVE + FAR_BELOW
READ = (False, True, False, True)
WRITE = (False, False, True, True)


class Made(Case):
    def test_fields(self):
        for kind, rest, names, first in KINDS:
            for rights in range(4):
                leaf = kind(rights, *rest)
                self.assertEqual(leaf.rights, rights)
                self.assertEqual(tuple(getattr(leaf, name) for name in names), rest)

    def test_rows(self):
        for kind, rest, names, first in KINDS:
            for rights in range(4):
                row = kind(rights, *rest).row()
                self.assertIs(type(row), tuple)
                self.assertEqual(row, (first, rights) + rest)

    def test_frames_slots_and_parts_from_0_on(self):
        for number in (0, 1, 63, 64) + FAR_ABOVE:
            self.assertEqual(Held(1, number).row(), ("held", 1, number))
            self.assertEqual(Out(2, number).row(), ("out", 2, number))
            self.assertEqual(Named(3, "a", number).row(), ("named", 3, "a", number))

    def test_none_is_another_one(self):
        for kind, rest, names, first in KINDS:
            leaf = kind(3, *rest)
            self.assertIsInstance(leaf, Leaf)
            for other, *others in KINDS:
                self.assertEqual(isinstance(leaf, other), kind is other)
        self.assertIs(type(Leaf(2)), Leaf)
        for kind, *others in KINDS:
            self.assertNotIsInstance(Leaf(2), kind)

    def test_two_leaves_know_nothing_of_each_other(self):
        one, other = Held(1, 2), Held(3, 4)
        self.assertEqual((one.row(), other.row()), (("held", 1, 2), ("held", 3, 4)))


class Rights(Case):
    def test_which_deeds_are_let(self):
        for kind, rest, *others in KINDS + ((Leaf, ()),):
            for rights in range(4):
                leaf = kind(rights, *rest)
                self.assertEqual(leaf.rights, rights)
                self.assertIs(leaf.may("read"), READ[rights])
                self.assertIs(leaf.may("write"), WRITE[rights])

    def test_a_leaf_like_another_one_but_for_the_rights(self):
        for kind, rest, names, first in KINDS:
            for rights in range(4):
                for others in range(4):
                    leaf = kind(rights, *rest)
                    like = leaf.righted(others)
                    self.assertIs(type(like), kind)
                    self.assertEqual(like.row(), (first, others) + rest)
                    self.assertEqual(like.rights, others)
                    self.assertEqual(tuple(getattr(like, name) for name in names), rest)
                    self.assertIs(like.may("read"), READ[others])
                    self.assertIs(like.may("write"), WRITE[others])
                    self.stays(leaf, kind, (first, rights) + rest)

    def stays(self, leaf, kind, row):
        self.assertIs(type(leaf), kind)
        self.assertEqual(leaf.row(), row)
        self.assertEqual(leaf.rights, row[1])
        self.assertIs(leaf.may("read"), READ[row[1]])
        self.assertIs(leaf.may("write"), WRITE[row[1]])

    def test_no_rights(self):
        for rights in NO_RIGHTS:
            self.refused(NoRights, Leaf, rights)
            for kind, rest, names, first in KINDS:
                self.refused(NoRights, kind, rights, *rest)
                leaf = kind(1, *rest)
                self.refused(NoRights, leaf.righted, rights)
                self.stays(leaf, kind, (first, 1) + rest)


if __name__ == "__main__":
    unittest.main()
