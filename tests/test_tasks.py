"""leafframe.tasks: point [23], and [4], [24], [25] behind forks."""

import itertools
import unittest

from leafframe.accesses import read_word, write_word
from leafframe.errors import Barred, Full, NoTask, Unmapped
from leafframe.looker import frame_counts, leaf_rows, looked, share_rows, slot_counts
from leafframe.maps import change_rights, map_pages, share_pages, unmap_pages
from leafframe.memories import Memory, begin_task, live_tasks, room_left, walks_of
from leafframe.shapes import Shape
from leafframe.tasks import end_task, fork_task
from tests.helper import FAR_ABOVE, FAR_BELOW, Case

# 128 pages of four words
SHAPE = Shape([3, 4], 2)
NEARS = (0, 1, 2, 64)


def memory_of(frames=2, slots=2, near=0, pages=2, rights=3):
    """A memory with one task, of so many pages from 0 on."""
    memory = Memory(SHAPE, frames, slots, near)
    begin_task(memory)
    map_pages(memory, 0, 0, pages, rights)
    return memory


def counts_of(memory):
    """The counts of all contents, whether they lie in frames or slots, the greatest first."""
    return sorted([count for count in frame_counts(memory) + slot_counts(memory) if count], reverse=True)


class TasksCase(Case):
    def reads(self, memory, words):
        """Each task reads its own first words of the pages from 0 on: task to list."""
        for task, told in words.items():
            self.assertEqual([read_word(memory, task, page * 4) for page in range(len(told))], told)
        self.assertEqual(looked(memory), [])


class Forking(TasksCase):
    def test_like_leaves_with_the_same_rights(self):
        for frames, slots in ((4, 0), (1, 3)):
            memory = memory_of(frames, slots, pages=4)
            for page in range(3):
                write_word(memory, 0, page * 4, page + 1)
            share_pages(memory, 0, "a", 10, 2, 1)
            for page in range(4):
                change_rights(memory, 0, page, 1, page)
            self.assertEqual(fork_task(memory, 0), 1)
            rows = leaf_rows(memory)
            own = [row[2:] for row in rows if row[:2] == ("task", 0)]
            self.assertEqual([row[2:] for row in rows if row[:2] == ("task", 1)], own)
            self.assertEqual([row[1][1] for row in own], [0, 1, 2, 3, 1, 1])
            self.assertEqual(counts_of(memory), [2, 2, 2])
            self.assertEqual(share_rows(memory), [("a", 2, 4)])
            self.assertEqual((looked(memory), room_left(memory)), ([], 1))

    def test_of_a_task_without_leaves(self):
        memory = Memory(SHAPE, 1, 0)
        begin_task(memory)
        self.assertEqual((fork_task(memory, 0), fork_task(memory, 1)), (1, 2))
        self.assertEqual((live_tasks(memory), leaf_rows(memory)), ([0, 1, 2], []))

    def test_the_least_number(self):
        memory = memory_of()
        for task in range(1, 6):
            self.assertEqual(fork_task(memory, task - 1), task)
        for task in (4, 2, 0):
            self.assertIsNone(end_task(memory, task))
        self.assertEqual(live_tasks(memory), [1, 3, 5])
        self.assertEqual([fork_task(memory, 5), begin_task(memory), fork_task(memory, 1), fork_task(memory, 0)],
                         [0, 2, 4, 6])
        self.assertEqual(live_tasks(memory), list(range(7)))

    def test_faults_tell_the_task(self):
        memory = memory_of(pages=1, rights=1)
        fork_task(memory, 0)
        for task in (0, 1):
            self.faulted(Barred, (task, 3, "write"), write_word, memory, task, 3, 1)
            self.faulted(Unmapped, (task, 4, "read"), read_word, memory, task, 4)
            self.faulted(Unmapped, (task, 4, "unmap"), unmap_pages, memory, task, 0, 2)
            self.faulted(Unmapped, (task, 4, "rights"), change_rights, memory, task, 0, 2, 3)

    def test_no_task_alone(self):
        memory = memory_of(1, 0)
        write_word(memory, 0, 0, 1)
        fork_task(memory, 0)
        end_task(memory, 0)
        for task in (0, 2, -1, 200) + FAR_ABOVE + FAR_BELOW:
            self.refused_by(memory, NoTask, fork_task, task)
            self.refused_by(memory, NoTask, end_task, task)
        # The pool is full; a fork is never refused for that.
        self.assertEqual(fork_task(memory, 1), 0)

    def test_maps_and_rights_go_on_apart(self):
        memory = memory_of()
        fork_task(memory, 0)
        map_pages(memory, 1, 2, 1, 3)
        self.faulted(Unmapped, (0, 8, "read"), read_word, memory, 0, 8)
        unmap_pages(memory, 0, 0, 1)
        self.assertEqual(read_word(memory, 1, 0), 0)
        change_rights(memory, 1, 1, 1, 2)
        self.assertEqual(read_word(memory, 0, 4), 0)
        self.faulted(Barred, (1, 4, "read"), read_word, memory, 1, 4)


class WritesBehindForks(TasksCase):
    def test_shared_until_somebody_writes(self):
        for frames, slots in ((4, 0), (1, 3)):
            for near in NEARS:
                for writer in (0, 1):
                    memory = memory_of(frames, slots, near)
                    write_word(memory, 0, 0, 5)
                    write_word(memory, 0, 4, 6)
                    fork_task(memory, 0)
                    self.assertEqual((counts_of(memory), room_left(memory)), ([2, 2], 2))
                    self.reads(memory, {0: [5, 6], 1: [5, 6]})
                    write_word(memory, writer, 4, 7)
                    self.assertEqual((counts_of(memory), room_left(memory)), ([2, 1, 1], 1))
                    self.reads(memory, {writer: [5, 7], 1 - writer: [5, 6]})

    def test_the_last_one_writes_in_place(self):
        for frames, slots in ((3, 0), (1, 2)):
            for near in NEARS:
                memory = memory_of(frames, slots, near, pages=1)
                write_word(memory, 0, 0, 5)
                fork_task(memory, 0)
                fork_task(memory, 1)
                self.assertEqual(counts_of(memory), [3])
                write_word(memory, 2, 0, 6)
                write_word(memory, 1, 0, 7)
                self.assertEqual((counts_of(memory), room_left(memory)), ([1, 1, 1], 0))
                for word in (8, 9):
                    for task in (0, 1, 2):
                        write_word(memory, task, 0, word + task)
                    self.reads(memory, {0: [word], 1: [word + 1], 2: [word + 2]})
                self.assertEqual(room_left(memory), 0)

    def test_the_word_that_lies_there_needs_a_content_too(self):
        memory = memory_of(1, 1, pages=1)
        write_word(memory, 0, 0, 5)
        fork_task(memory, 0)
        write_word(memory, 1, 0, 5)
        self.assertEqual((counts_of(memory), room_left(memory)), ([1, 1], 0))
        memory = memory_of(1, 0, pages=1)
        write_word(memory, 0, 0, 5)
        fork_task(memory, 0)
        self.refused_by(memory, Full, write_word, 1, 0, 5)

    def test_full_exactly_while_another_one_has_it(self):
        for frames, slots in ((2, 0), (1, 1)):
            for near in NEARS:
                memory = memory_of(frames, slots, near)
                write_word(memory, 0, 0, 5)
                write_word(memory, 0, 4, 6)
                fork_task(memory, 0)
                for task in (0, 1):
                    for address in (0, 3, 4):
                        self.refused_by(memory, Full, write_word, task, address, 9)
                unmap_pages(memory, 1, 0, 1)
                write_word(memory, 0, 0, 7)
                self.refused_by(memory, Full, write_word, 0, 4, 9)
                end_task(memory, 0)
                write_word(memory, 1, 4, 8)
                self.assertEqual(read_word(memory, 1, 4), 8)
                self.assertEqual((counts_of(memory), room_left(memory)), ([1], 1))

    def test_a_page_that_was_never_written_is_of_their_own(self):
        for near in NEARS:
            memory = memory_of(1, 1, near, pages=1)
            fork_task(memory, 0)
            write_word(memory, 1, 0, 5)
            self.reads(memory, {0: [0], 1: [5]})
            write_word(memory, 0, 0, 6)
            self.reads(memory, {0: [6], 1: [5]})

    def test_the_other_words_of_the_page_come_along(self):
        for frames, slots in ((3, 0), (1, 2)):
            memory = memory_of(frames, slots, pages=2)
            for place in range(4):
                write_word(memory, 0, place, place + 1)
            fork_task(memory, 0)
            write_word(memory, 0, 4, 9)
            write_word(memory, 1, 2, 50)
            self.assertEqual([read_word(memory, 1, place) for place in range(4)], [1, 2, 50, 4])
            self.assertEqual([read_word(memory, 0, place) for place in range(4)], [1, 2, 3, 4])

    def test_shares_stay_shared(self):
        for near in NEARS:
            memory = memory_of(1, 1, near, pages=1)
            share_pages(memory, 0, "a", 5, 2, 3)
            write_word(memory, 0, 20, 5)
            fork_task(memory, 0)
            self.assertEqual(counts_of(memory), [1])
            write_word(memory, 1, 20, 6)
            self.assertEqual(read_word(memory, 0, 20), 6)
            write_word(memory, 0, 24, 7)
            self.assertEqual(read_word(memory, 1, 24), 7)
            self.assertEqual((counts_of(memory), share_rows(memory), looked(memory)), ([1, 1], [("a", 2, 4)], []))
            end_task(memory, 0)
            self.assertEqual((read_word(memory, 1, 20), share_rows(memory)), (6, [("a", 2, 2)]))
            unmap_pages(memory, 1, 5, 2)
            self.assertEqual((room_left(memory), share_rows(memory)), (2, []))

    def test_forks_of_forks(self):
        for frames, slots in ((8, 0), (2, 6), (1, 7)):
            for near in NEARS:
                memory = memory_of(frames, slots, near, pages=1)
                words = {0: [1]}
                write_word(memory, 0, 0, 1)
                for task in range(1, 8):
                    fork_task(memory, (task - 1) // 2)
                    words[task] = list(words[(task - 1) // 2])
                    if task % 2:
                        write_word(memory, task, 0, 10 + task)
                        words[task] = [10 + task]
                    self.reads(memory, words)
                    self.assertEqual(len(set(word for (word,) in words.values())), len(counts_of(memory)))


class Ending(TasksCase):
    def test_in_any_order(self):
        for order in itertools.permutations(range(4)):
            memory = memory_of(1, 7, 1)
            write_word(memory, 0, 0, 5)
            write_word(memory, 0, 4, 6)
            share_pages(memory, 0, "a", 5, 1, 3)
            write_word(memory, 0, 20, 7)
            words = {0: [5, 6]}
            for task in (1, 2, 3):
                fork_task(memory, task // 2)
                words[task] = [5, 10 + task]
                write_word(memory, task, 4, 10 + task)
            self.ended(memory, order, words)

    def ended(self, memory, order, words):
        self.assertEqual((counts_of(memory), share_rows(memory)), ([4, 1, 1, 1, 1, 1], [("a", 1, 4)]))
        for number, task in enumerate(order):
            end_task(memory, task)
            words.pop(task)
            self.assertEqual(live_tasks(memory), sorted(words))
            self.reads(memory, words)
            left = 3 - number
            self.assertEqual(counts_of(memory), ([left] + [1] * (left + 1)) if left else [])
            self.assertEqual(share_rows(memory), [("a", 1, left)] if left else [])
            self.refused_by(memory, NoTask, read_word, task, 0)
        self.assertEqual((room_left(memory), leaf_rows(memory)), (8, []))
        self.assertEqual((frame_counts(memory), slot_counts(memory)), ([0], [0] * 7))

    def test_a_new_task_of_the_same_number_has_no_leaf(self):
        for near in NEARS:
            memory = memory_of(2, 0, near)
            share_pages(memory, 0, "a", 5, 1, 3)
            write_word(memory, 0, 20, 5)
            write_word(memory, 0, 0, 5)
            end_task(memory, 0)
            self.assertEqual(begin_task(memory), 0)
            for address in (0, 20):
                self.faulted(Unmapped, (0, address, "read"), read_word, memory, 0, address)
            map_pages(memory, 0, 0, 1, 3)
            share_pages(memory, 0, "a", 5, 1, 3)
            self.assertEqual((read_word(memory, 0, 0), read_word(memory, 0, 20)), (0, 0))


class NearTable(TasksCase):
    """With every page near: what was known must be forgotten as soon as it isn't so any more."""

    def test_nothing_is_written_past_a_fork(self):
        for near in (1, 64):
            memory = memory_of(2, 0, near, pages=1)
            write_word(memory, 0, 0, 5)
            fork_task(memory, 0)
            write_word(memory, 0, 0, 6)
            self.reads(memory, {0: [6], 1: [5]})
            memory = memory_of(2, 0, near, pages=1)
            write_word(memory, 0, 0, 5)
            fork_task(memory, 0)
            self.assertEqual(read_word(memory, 0, 0), 5)
            self.assertEqual(read_word(memory, 1, 0), 5)
            write_word(memory, 0, 1, 6)
            self.assertEqual((read_word(memory, 1, 1), read_word(memory, 0, 1)), (0, 6))

    def test_nothing_is_read_where_the_old_content_lay(self):
        memory = memory_of(3, 0, 64, pages=1)
        write_word(memory, 0, 0, 5)
        fork_task(memory, 0)
        for task in (0, 1):
            self.assertEqual(read_word(memory, task, 0), 5)
        write_word(memory, 1, 0, 6)
        self.assertEqual((read_word(memory, 1, 0), read_word(memory, 0, 0)), (6, 5))
        write_word(memory, 0, 0, 7)
        self.assertEqual((read_word(memory, 1, 0), read_word(memory, 0, 0)), (6, 7))

    def test_an_ended_task_is_forgotten(self):
        memory = memory_of(1, 0, 64, pages=1)
        write_word(memory, 0, 0, 5)
        fork_task(memory, 0)
        self.assertEqual(read_word(memory, 1, 0), 5)
        end_task(memory, 0)
        write_word(memory, 1, 0, 6)
        self.assertEqual(begin_task(memory), 0)
        self.faulted(Unmapped, (0, 0, "read"), read_word, memory, 0, 0)

    def test_behind_a_write_that_parts_a_content_there_is_no_walk(self):
        for near in (1, 2, 64):
            for frames, slots in ((4, 0), (1, 3)):
                memory = memory_of(frames, slots, near)
                write_word(memory, 0, 0, 5)
                fork_task(memory, 0)
                for task in (1, 0):
                    write_word(memory, task, 0, 6 + task)
                    walks = walks_of(memory)
                    self.assertEqual(read_word(memory, task, 0), 6 + task)
                    write_word(memory, task, 1, 9)
                    self.assertEqual(walks_of(memory), walks)

    def test_forks_and_ends_are_no_walks(self):
        memory = memory_of(near=0)
        write_word(memory, 0, 0, 1)
        fork_task(memory, 0)
        end_task(memory, 0)
        self.assertEqual(walks_of(memory), 1)


class Many(TasksCase):
    def test_two_hundred_tasks_and_four_thousand_leaves(self):
        memory = memory_of(2, 30, 8, pages=20)
        for page in range(20):
            write_word(memory, 0, page * 4, page)
        for task in range(1, 200):
            self.assertEqual(fork_task(memory, task // 2), task)
        self.assertEqual(counts_of(memory), [200] * 20)
        for turn in range(40):
            self.assertEqual(read_word(memory, turn * 7 % 200, turn * 3 % 20 * 4), turn * 3 % 20)
        for turn in range(12):
            write_word(memory, 17 * turn, turn * 4, 1000 + turn)
        self.refused_by(memory, Full, write_word, 199, 0, 1)
        for turn in range(12):
            self.assertEqual(read_word(memory, 17 * turn, turn * 4), 1000 + turn)
            self.assertEqual(read_word(memory, 17 * turn + 1, turn * 4), turn)
        self.assertEqual(looked(memory), [])
        for task in range(200):
            end_task(memory, task)
        self.assertEqual((room_left(memory), looked(memory), leaf_rows(memory)), (32, [], []))


if __name__ == "__main__":
    unittest.main()
