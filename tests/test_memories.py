"""leafframe.memories: point [21], and [2] for it."""

import unittest

from leafframe.errors import NoShape, NoTask
from leafframe.maps import change_rights, map_pages, share_pages, unmap_pages
from leafframe.accesses import read_word, write_word
from leafframe.memories import Memory, begin_task, live_tasks, room_left, walks_of
from leafframe.shapes import Shape
from tests.helper import FAR_ABOVE, FAR_BELOW, Case

SHAPE = Shape([3, 4], 2)


class Making(Case):
    def test_least_and_greatest_numbers(self):
        for frames in (1, 2, 64):
            for slots in (0, 1, 64):
                for near in (0, 1, 2, 4, 8, 16, 32, 64):
                    for shape in (Shape([1, 1], 0), Shape([24, 24, 24], 6)):
                        memory = Memory(shape, frames, slots, near)
                        self.assertEqual((live_tasks(memory), room_left(memory), walks_of(memory)),
                                         ([], frames + slots, 0))

    def test_no_near_table_is_told(self):
        memory = Memory(SHAPE, 1, 0)
        task = begin_task(memory)
        map_pages(memory, task, 0, 1, 3)
        write_word(memory, task, 0, 5)
        read_word(memory, task, 0)
        self.assertEqual(walks_of(memory), 2)
        memory = Memory(SHAPE, 1, 0, near=1)
        task = begin_task(memory)
        map_pages(memory, task, 0, 1, 3)
        write_word(memory, task, 0, 5)
        read_word(memory, task, 0)
        self.assertEqual(walks_of(memory), 1)

    def test_no_shape(self):
        for many in (-1, -2, 65, 66, 1000) + FAR_ABOVE + FAR_BELOW:
            self.refused(NoShape, Memory, SHAPE, many, 1)
            self.refused(NoShape, Memory, SHAPE, many, 1, 1)
            self.refused(NoShape, Memory, SHAPE, 1, many)
            self.refused(NoShape, Memory, SHAPE, 1, many, 64)
            self.refused(NoShape, Memory, SHAPE, 1, 1, many)
        self.refused(NoShape, Memory, SHAPE, 0, 1)
        self.refused(NoShape, Memory, SHAPE, 0, 64, 4)
        for near in (3, 5, 6, 7, 9, 12, 31, 33, 48, 63):
            self.refused(NoShape, Memory, SHAPE, 1, 1, near)

    def test_contents_of_as_many_words_as_a_page_has(self):
        for low in range(7):
            memory = Memory(Shape([1, 2], low), 1, 1)
            task = begin_task(memory)
            map_pages(memory, task, 0, 8, 3)
            last = 8 * 2 ** low - 1
            write_word(memory, task, last, 7)
            write_word(memory, task, 0, 8)
            self.assertEqual((read_word(memory, task, last), read_word(memory, task, 0)), (7, 8))

    def test_two_know_nothing_of_each_other(self):
        one, other = Memory(SHAPE, 2, 1, 4), Memory(SHAPE, 2, 1, 4)
        task = begin_task(one)
        share_pages(one, task, "a", 0, 1, 3)
        write_word(one, task, 0, 5)
        self.assertEqual((live_tasks(other), room_left(other), walks_of(other)), ([], 3, 0))
        task = begin_task(other)
        share_pages(other, task, "a", 0, 2, 3)
        self.assertEqual((read_word(other, task, 0), read_word(one, 0, 0)), (0, 5))


class Tasks(Case):
    def test_numbered_from_0_on(self):
        memory = Memory(SHAPE, 1, 0)
        for task in range(200):
            self.assertEqual(begin_task(memory), task)
        self.assertEqual(live_tasks(memory), list(range(200)))

    def test_a_new_task_has_no_leaf(self):
        memory = Memory(Shape([1, 1], 0), 1, 0)
        begin_task(memory)
        map_pages(memory, 0, 0, 4, 3)
        begin_task(memory)
        map_pages(memory, 1, 0, 4, 3)

    def test_no_task(self):
        memory = Memory(SHAPE, 2, 2)
        for many in range(3):
            for task in (many, many + 1, -1, -2, 200) + FAR_ABOVE + FAR_BELOW:
                # All else is wrong as well: NoTask goes first.
                self.refused_by(memory, NoTask, map_pages, task, -1, 0, 4)
                self.refused_by(memory, NoTask, map_pages, task, 0, 1, 3)
                self.refused_by(memory, NoTask, unmap_pages, task, -1, 0)
                self.refused_by(memory, NoTask, change_rights, task, -1, 0, 4)
                self.refused_by(memory, NoTask, share_pages, task, "A", -1, 0, 4)
                self.refused_by(memory, NoTask, read_word, task, -1)
                self.refused_by(memory, NoTask, write_word, task, -1, -1)
            begin_task(memory)

    def test_told_tasks_are_the_askers_own(self):
        memory = Memory(SHAPE, 1, 0)
        begin_task(memory)
        told = live_tasks(memory)
        told.append(7)
        told[0] = 5
        self.assertEqual(live_tasks(memory), [0])
        kept = live_tasks(memory)
        begin_task(memory)
        self.assertEqual(kept, [0])
        self.assertEqual(live_tasks(memory), [0, 1])


if __name__ == "__main__":
    unittest.main()
