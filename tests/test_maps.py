"""leafframe.maps: point [22], and [2] for it."""

import unittest

from leafframe.accesses import read_word, write_word
from leafframe.errors import Barred, Full, NoName, NoRights, NoStretch, NoTask, Taken, Unlike, Unmapped
from leafframe.maps import change_rights, map_pages, share_pages, unmap_pages
from leafframe.memories import Memory, begin_task, room_left
from leafframe.shapes import Shape
from tests.helper import NO_NAMES, NO_RIGHTS, Case, bad_stretches

# 128 pages of four words
SHAPE = Shape([3, 4], 2)


def memory_of(frames=2, slots=2, near=0, tasks=1):
    memory = Memory(SHAPE, frames, slots, near)
    for task in range(tasks):
        begin_task(memory)
    return memory


class MapsCase(Case):
    def mapped(self, memory, task, pages):
        """Just these pages of the task can be read: page to the words that lie there."""
        for page in range(128):
            for place in range(4):
                if page in pages:
                    self.assertEqual(read_word(memory, task, page * 4 + place), pages[page][place])
                else:
                    self.refused(Unmapped, read_word, memory, task, page * 4 + place)

    def refused_with_fault(self, memory, kind, fields, call, *handed):
        error = self.refused_by(memory, kind, call, *handed)
        self.assertEqual((error.task, error.address, error.deed), fields)

    def refused_taken(self, memory, page, call, *handed):
        self.assertEqual(self.refused_by(memory, Taken, call, *handed).page, page)


class Mapping(MapsCase):
    def test_stretches_at_both_ends(self):
        for first, many in ((0, 1), (0, 64), (127, 1), (64, 64), (30, 5)):
            memory = memory_of()
            self.assertIsNone(map_pages(memory, 0, first, many, 1))
            self.mapped(memory, 0, {page: [0] * 4 for page in range(first, first + many)})
            self.assertEqual(room_left(memory), 4)

    def test_each_right(self):
        for rights in range(4):
            memory = memory_of()
            map_pages(memory, 0, 5, 1, rights)
            for call, right, more in ((read_word, 1, ()), (write_word, 2, (7,))):
                if rights & right:
                    call(memory, 0, 22, *more)
                else:
                    deed = "read" if right == 1 else "write"
                    self.refused_with_fault(memory, Barred, (0, 22, deed), call, 0, 22, *more)

    def test_tasks_apart(self):
        memory = memory_of(tasks=2)
        map_pages(memory, 0, 5, 1, 3)
        write_word(memory, 0, 20, 9)
        self.mapped(memory, 1, {})
        map_pages(memory, 1, 5, 2, 3)
        self.mapped(memory, 1, {5: [0] * 4, 6: [0] * 4})
        self.mapped(memory, 0, {5: [9, 0, 0, 0]})

    def test_refusals_in_their_order(self):
        memory = memory_of()
        map_pages(memory, 0, 0, 2, 3)
        map_pages(memory, 0, 127, 1, 3)
        for first, many in bad_stretches(128):
            for rights in (3, -1, 4):
                self.refused_by(memory, NoTask, map_pages, 1, first, many, rights)
                self.refused_by(memory, NoStretch, map_pages, 0, first, many, rights)
        for rights in NO_RIGHTS:
            self.refused_by(memory, NoTask, map_pages, 1, 0, 1, rights)
            self.refused_by(memory, NoRights, map_pages, 0, 0, 1, rights)
            self.refused_by(memory, NoRights, map_pages, 0, 50, 1, rights)
        self.refused_taken(memory, 0, map_pages, 0, 0, 1, 0)
        self.refused_taken(memory, 1, map_pages, 0, 1, 5, 3)
        self.refused_taken(memory, 127, map_pages, 0, 64, 64, 3)


class Unmapping(MapsCase):
    def test_stretches_at_both_ends(self):
        for first, many in ((0, 1), (0, 64), (127, 1), (64, 64), (30, 5)):
            memory = memory_of()
            map_pages(memory, 0, 0, 64, 1)
            map_pages(memory, 0, 64, 64, 1)
            self.assertIsNone(unmap_pages(memory, 0, first, many))
            self.mapped(memory, 0, {page: [0] * 4 for page in range(128) if not first <= page < first + many})

    def test_contents_are_counted_one_fewer(self):
        for frames, slots in ((4, 0), (1, 3)):
            memory = memory_of(frames, slots)
            map_pages(memory, 0, 0, 6, 3)
            for page in range(4):
                write_word(memory, 0, page * 4, page + 1)
            self.assertEqual(room_left(memory), 0)
            self.refused_by(memory, Full, write_word, 0, 16, 1)
            unmap_pages(memory, 0, 1, 2)
            self.assertEqual(room_left(memory), 2)
            unmap_pages(memory, 0, 5, 1)
            self.assertEqual(room_left(memory), 2)
            self.mapped(memory, 0, {0: [1, 0, 0, 0], 3: [4, 0, 0, 0], 4: [0] * 4})

    def test_mapped_again_all_is_0(self):
        for near in (0, 1, 64):
            memory = memory_of(near=near)
            map_pages(memory, 0, 5, 1, 3)
            write_word(memory, 0, 20, 9)
            unmap_pages(memory, 0, 5, 1)
            self.refused_with_fault(memory, Unmapped, (0, 20, "read"), read_word, 0, 20)
            self.refused_with_fault(memory, Unmapped, (0, 20, "write"), write_word, 0, 20, 1)
            map_pages(memory, 0, 5, 1, 3)
            self.assertEqual(read_word(memory, 0, 20), 0)

    def test_refusals_in_their_order(self):
        memory = memory_of()
        map_pages(memory, 0, 3, 2, 3)
        map_pages(memory, 0, 6, 1, 3)
        write_word(memory, 0, 12, 5)
        for first, many in bad_stretches(128):
            self.refused_by(memory, NoTask, unmap_pages, 1, first, many)
            self.refused_by(memory, NoStretch, unmap_pages, 0, first, many)
        self.refused_by(memory, NoTask, unmap_pages, 1, 0, 1)
        self.refused_with_fault(memory, Unmapped, (0, 8, "unmap"), unmap_pages, 0, 2, 3)
        self.refused_with_fault(memory, Unmapped, (0, 20, "unmap"), unmap_pages, 0, 3, 5)
        self.refused_with_fault(memory, Unmapped, (0, 508, "unmap"), unmap_pages, 0, 127, 1)


class Rights(MapsCase):
    def test_each_right_to_each(self):
        for near in (0, 1, 64):
            for ahead in range(4):
                for rights in range(4):
                    self.changed(memory_of(near=near), ahead, rights)

    def changed(self, memory, ahead, rights):
        map_pages(memory, 0, 4, 3, 3)
        for page in (4, 5, 6):
            write_word(memory, 0, page * 4, page)
        change_rights(memory, 0, 4, 3, ahead)
        if ahead & 1:
            read_word(memory, 0, 20)
        self.assertIsNone(change_rights(memory, 0, 5, 1, rights))
        for page, right in ((4, ahead), (5, rights), (6, ahead)):
            if right & 1:
                self.assertEqual(read_word(memory, 0, page * 4), page)
            else:
                self.refused_with_fault(memory, Barred, (0, page * 4, "read"), read_word, 0, page * 4)
            if right & 2:
                write_word(memory, 0, page * 4 + 1, 1)
            else:
                self.refused_with_fault(memory, Barred, (0, page * 4, "write"), write_word, 0, page * 4, 1)

    def test_the_words_stay(self):
        memory = memory_of(1, 3)
        map_pages(memory, 0, 0, 3, 3)
        write_word(memory, 0, 0, 5)
        write_word(memory, 0, 7, 6)
        change_rights(memory, 0, 0, 3, 0)
        change_rights(memory, 0, 0, 3, 1)
        self.mapped(memory, 0, {0: [5, 0, 0, 0], 1: [0, 0, 0, 6], 2: [0] * 4})

    def test_refusals_in_their_order(self):
        memory = memory_of()
        map_pages(memory, 0, 3, 2, 3)
        for first, many in bad_stretches(128):
            for rights in (3, -1, 4):
                self.refused_by(memory, NoTask, change_rights, 1, first, many, rights)
                self.refused_by(memory, NoStretch, change_rights, 0, first, many, rights)
        for rights in NO_RIGHTS:
            self.refused_by(memory, NoTask, change_rights, 1, 3, 2, rights)
            self.refused_by(memory, NoRights, change_rights, 0, 3, 2, rights)
            self.refused_by(memory, NoRights, change_rights, 0, 3, 3, rights)
        self.refused_with_fault(memory, Unmapped, (0, 20, "rights"), change_rights, 0, 3, 4, 1)
        self.refused_with_fault(memory, Unmapped, (0, 8, "rights"), change_rights, 0, 2, 2, 1)


class Sharing(MapsCase):
    def test_stretches_at_both_ends(self):
        for first, many in ((0, 1), (0, 64), (127, 1), (64, 64), (30, 5)):
            memory = memory_of(tasks=2)
            self.assertIsNone(share_pages(memory, 0, "abcdefgh", first, many, 3))
            share_pages(memory, 1, "abcdefgh", 128 - many, many, 1)
            write_word(memory, 0, first * 4, 7)
            write_word(memory, 0, (first + many) * 4 - 1, 8)
            self.assertEqual(read_word(memory, 1, (128 - many) * 4), 7)
            self.assertEqual(read_word(memory, 1, 511), 8)

    def test_each_task_has_its_own_rights(self):
        memory = memory_of(tasks=4)
        for rights in range(4):
            share_pages(memory, rights, "a", 5, 1, rights)
        write_word(memory, 3, 20, 1)
        write_word(memory, 2, 21, 2)
        self.assertEqual([read_word(memory, task, 21) for task in (1, 3)], [2, 2])
        self.refused_with_fault(memory, Barred, (2, 20, "read"), read_word, 2, 20)
        self.refused_with_fault(memory, Barred, (1, 20, "write"), write_word, 1, 20, 3)
        self.refused_with_fault(memory, Barred, (0, 20, "read"), read_word, 0, 20)
        change_rights(memory, 1, 5, 1, 2)
        write_word(memory, 1, 20, 4)
        self.assertEqual(read_word(memory, 3, 20), 4)
        self.assertEqual(room_left(memory), 3)

    def test_twice_by_a_task(self):
        for near in (0, 1, 64):
            memory = memory_of(near=near)
            share_pages(memory, 0, "a", 0, 2, 3)
            share_pages(memory, 0, "a", 2, 2, 3)
            write_word(memory, 0, 5, 7)
            self.assertEqual(read_word(memory, 0, 13), 7)
            write_word(memory, 0, 13, 8)
            self.assertEqual(read_word(memory, 0, 5), 8)
            unmap_pages(memory, 0, 0, 2)
            self.assertEqual(read_word(memory, 0, 13), 8)
            self.assertEqual(room_left(memory), 3)

    def test_gone_with_its_last_leaf_and_its_contents_with_it(self):
        for frames, slots in ((4, 0), (1, 3)):
            memory = memory_of(frames, slots, tasks=2)
            share_pages(memory, 0, "a", 0, 3, 3)
            share_pages(memory, 1, "a", 10, 3, 3)
            for page in range(3):
                write_word(memory, 0, page * 4, page + 1)
            unmap_pages(memory, 0, 0, 3)
            unmap_pages(memory, 1, 10, 2)
            self.assertEqual(room_left(memory), 1)
            self.assertEqual(read_word(memory, 1, 48), 3)
            # The parts that no leaf names are still there.
            share_pages(memory, 0, "a", 20, 3, 1)
            self.mapped(memory, 0, {20: [1, 0, 0, 0], 21: [2, 0, 0, 0], 22: [3, 0, 0, 0]})
            unmap_pages(memory, 0, 20, 3)
            self.assertEqual(room_left(memory), 1)
            unmap_pages(memory, 1, 12, 1)
            self.assertEqual(room_left(memory), 4)
            share_pages(memory, 1, "a", 0, 2, 3)
            self.mapped(memory, 1, {0: [0] * 4, 1: [0] * 4})

    def test_two_shares_apart(self):
        memory = memory_of()
        share_pages(memory, 0, "a", 0, 1, 3)
        share_pages(memory, 0, "b", 1, 1, 3)
        write_word(memory, 0, 0, 5)
        write_word(memory, 0, 4, 6)
        self.mapped(memory, 0, {0: [5, 0, 0, 0], 1: [6, 0, 0, 0]})

    def test_refusals_in_their_order(self):
        memory = memory_of()
        share_pages(memory, 0, "a", 0, 2, 3)
        map_pages(memory, 0, 127, 1, 3)
        for first, many in bad_stretches(128):
            for name, rights in (("a", 3), ("A", 3), ("a", 4), ("", -1), ("b", 3)):
                self.refused_by(memory, NoTask, share_pages, 1, name, first, many, rights)
                self.refused_by(memory, NoStretch, share_pages, 0, name, first, many, rights)
        for rights in NO_RIGHTS:
            for name in ("a", "b", "A"):
                self.refused_by(memory, NoTask, share_pages, 1, name, 0, 1, rights)
                self.refused_by(memory, NoRights, share_pages, 0, name, 0, 1, rights)
                self.refused_by(memory, NoRights, share_pages, 0, name, 50, 2, rights)
        for name in NO_NAMES:
            self.refused_by(memory, NoName, share_pages, 0, name, 50, 2, 3)
            self.refused_by(memory, NoName, share_pages, 0, name, 0, 2, 3)
        for many in (1, 3, 64):
            self.refused_by(memory, Unlike, share_pages, 0, "a", 50, many, 3)
            self.refused_by(memory, Unlike, share_pages, 0, "a", 0, many, 3)
        self.refused_taken(memory, 1, share_pages, 0, "a", 1, 2, 3)
        self.refused_taken(memory, 127, share_pages, 0, "a", 126, 2, 3)
        self.refused_taken(memory, 127, share_pages, 0, "b", 64, 64, 3)

    def test_a_refused_use_makes_no_share(self):
        memory = memory_of()
        map_pages(memory, 0, 0, 1, 3)
        self.refused_taken(memory, 0, share_pages, 0, "a", 0, 2, 3)
        share_pages(memory, 0, "a", 1, 5, 3)
        unmap_pages(memory, 0, 1, 5)
        share_pages(memory, 0, "a", 1, 3, 3)


if __name__ == "__main__":
    unittest.main()
