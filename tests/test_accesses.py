"""leafframe.accesses: points [24], [25], and [2], [4] for them."""

import unittest

from leafframe.accesses import read_word, write_word
from leafframe.errors import Barred, Full, NoAddress, NoTask, NoWord, Unmapped
from leafframe.maps import change_rights, map_pages, share_pages, unmap_pages
from leafframe.memories import Memory, begin_task, room_left, walks_of
from leafframe.shapes import Shape
from tests.helper import FAR_ABOVE, FAR_BELOW, NO_WORDS, TOP_WORD, Case

# 128 pages of four words
SHAPE = Shape([3, 4], 2)
NO_ADDRESSES = (-1, -4, -512, 512, 513, 1024) + FAR_ABOVE + FAR_BELOW


def memory_of(frames=2, slots=2, near=0, tasks=1, pages=0, rights=3):
    """A memory whose tasks have so many pages, from 0 on."""
    memory = Memory(SHAPE, frames, slots, near)
    for task in range(tasks):
        begin_task(memory)
        if pages:
            map_pages(memory, task, 0, pages, rights)
    return memory


def page_read(memory, task, page):
    return [read_word(memory, task, page * 4 + place) for place in range(4)]


class Reading(Case):
    def test_pages_never_written(self):
        for near in (0, 1, 64):
            memory = memory_of(1, 0, near, pages=64)
            share_pages(memory, 0, "a", 64, 64, 1)
            for address in range(512):
                self.assertEqual(read_word(memory, 0, address), 0)
            self.assertEqual(room_left(memory), 1)
            self.assertEqual(walks_of(memory), 512)

    def test_refusals_in_their_order(self):
        memory = memory_of(pages=2, rights=2)
        for address in NO_ADDRESSES:
            self.refused_by(memory, NoTask, read_word, 1, address)
            self.refused_by(memory, NoAddress, read_word, 0, address)
        for address in (0, 7, 8, 511):
            self.refused_by(memory, NoTask, read_word, 1, address)
        for address in (8, 511):
            error = self.refused_by(memory, Unmapped, read_word, 0, address)
            self.assertEqual((error.task, error.address, error.deed), (0, address, "read"))
        for address in (0, 7):
            error = self.refused_by(memory, Barred, read_word, 0, address)
            self.assertEqual((error.task, error.address, error.deed), (0, address, "read"))


class Writing(Case):
    def test_what_is_written_is_read_in_frames_and_slots(self):
        for frames, slots in ((8, 0), (4, 4), (2, 6), (1, 7)):
            for near in (0, 1, 4, 64):
                self.write_and_read(memory_of(frames, slots, near, pages=8))

    def write_and_read(self, memory):
        words = {}
        for turn in range(100):
            address, word = turn * 7 % 32, TOP_WORD - turn
            self.assertIsNone(write_word(memory, 0, address, word))
            words[address] = word
            for other in (turn * 11 % 32, address):
                self.assertEqual(read_word(memory, 0, other), words.get(other, 0))
        self.assertEqual(room_left(memory), 0)
        self.assertEqual([page_read(memory, 0, page) for page in range(8)],
                         [[words[page * 4 + place] for place in range(4)] for page in range(8)])

    def test_the_first_write_alone_needs_a_content(self):
        for near in (0, 64):
            memory = memory_of(2, 2, near, pages=8)
            rooms = []
            for address in (0, 1, 0, 4, 0, 4, 31, 29, 8):
                write_word(memory, 0, address, 5)
                rooms.append(room_left(memory))
            self.assertEqual(rooms, [3, 3, 3, 2, 2, 2, 1, 1, 0])

    def test_a_0_that_is_written_needs_a_content_too(self):
        memory = memory_of(1, 1, pages=3)
        write_word(memory, 0, 0, 0)
        self.assertEqual(room_left(memory), 1)
        write_word(memory, 0, 4, 0)
        self.assertEqual(room_left(memory), 0)
        self.refused_by(memory, Full, write_word, 0, 8, 0)

    def test_a_page_that_may_be_written_alone(self):
        for near in (0, 1, 64):
            memory = memory_of(1, 2, near, pages=3, rights=2)
            for address in (0, 4, 8, 1, 5, 9):
                write_word(memory, 0, address, address + 1)
            self.refused_by(memory, Barred, read_word, 0, 1)
            change_rights(memory, 0, 0, 3, 1)
            self.assertEqual([page_read(memory, 0, page) for page in range(3)],
                             [[1, 2, 0, 0], [5, 6, 0, 0], [9, 10, 0, 0]])

    def test_full_exactly_where_a_content_more_is_needed(self):
        for frames, slots in ((1, 0), (2, 0), (1, 1), (2, 3), (64, 0)):
            for near in (0, 1, 64):
                memory = memory_of(frames, slots, near, pages=64)
                share_pages(memory, 0, "a", 64, 2, 3)
                for page in range(frames + slots):
                    write_word(memory, 0, (page + 1) % 64 * 4, page + 1)
                self.assertEqual(room_left(memory), 0)
                for address in ([0] if frames + slots < 64 else []) + [256, 260]:
                    self.refused_by(memory, Full, write_word, 0, address, 1)
                    self.assertEqual(read_word(memory, 0, address), 0)
                for page in range(frames + slots):
                    write_word(memory, 0, (page + 1) % 64 * 4 + 1, 7)
                    self.assertEqual(page_read(memory, 0, (page + 1) % 64), [page + 1, 7, 0, 0])
                unmap_pages(memory, 0, 1, 1)
                write_word(memory, 0, 256, 3)
                self.refused_by(memory, Full, write_word, 0, 260, 1)

    def test_greatest_numbers(self):
        memory = memory_of(64, 64, 64, pages=64)
        begin_task(memory)
        map_pages(memory, 1, 64, 64, 3)
        map_pages(memory, 1, 0, 1, 3)
        for page in range(64):
            write_word(memory, 0, page * 4, page)
            write_word(memory, 1, 256 + page * 4, 100 + page)
        self.refused_by(memory, Full, write_word, 1, 0, 1)
        for page in range(64):
            self.assertEqual(read_word(memory, 0, page * 4), page)
            self.assertEqual(read_word(memory, 1, 256 + page * 4), 100 + page)

    def test_refusals_in_their_order(self):
        memory = memory_of(1, 0, pages=3, rights=1)
        map_pages(memory, 0, 3, 2, 3)
        write_word(memory, 0, 12, 1)
        for address in NO_ADDRESSES:
            for word in (1, -1, 2 ** 64):
                self.refused_by(memory, NoTask, write_word, 1, address, word)
                self.refused_by(memory, NoAddress, write_word, 0, address, word)
        for thing in NO_WORDS:
            self.refused_by(memory, NoTask, write_word, 1, 0, thing)
            for address in (0, 12, 16, 20):
                self.refused_by(memory, NoWord, write_word, 0, address, thing)
        for kind, address in ((Unmapped, 20), (Unmapped, 511), (Barred, 0), (Barred, 11)):
            self.refused_by(memory, NoTask, write_word, 1, address, 1)
            error = self.refused_by(memory, kind, write_word, 0, address, 1)
            self.assertEqual((error.task, error.address, error.deed), (0, address, "write"))
        self.refused_by(memory, NoTask, write_word, 1, 16, 1)
        self.refused_by(memory, Full, write_word, 0, 16, 1)

    def test_no_word_where_the_near_table_knows_the_page(self):
        memory = memory_of(near=4, pages=1)
        write_word(memory, 0, 1, 5)
        for thing in NO_WORDS:
            self.refused_by(memory, NoWord, write_word, 0, 1, thing)
        self.assertEqual(read_word(memory, 0, 1), 5)


class Shared(Case):
    def test_a_shares_parts_are_written_in_place(self):
        for frames, slots in ((3, 0), (1, 2)):
            for near in (0, 1, 64):
                memory = memory_of(frames, slots, near, tasks=3)
                for task in range(3):
                    share_pages(memory, task, "ab", task * 8, 3, 3)
                for turn in range(40):
                    task, page, place = turn % 3, turn * 5 % 3, turn * 3 % 4
                    write_word(memory, task, (task * 8 + page) * 4 + place, turn)
                    for other in range(3):
                        self.assertEqual(read_word(memory, other, (other * 8 + page) * 4 + place), turn)
                self.assertEqual(room_left(memory), 0)

    def test_the_first_write_to_a_part_is_seen_by_all(self):
        for near in (0, 1, 64):
            memory = memory_of(1, 1, near, tasks=2)
            share_pages(memory, 0, "a", 0, 1, 3)
            share_pages(memory, 1, "a", 0, 1, 1)
            self.assertEqual((read_word(memory, 0, 2), read_word(memory, 1, 2)), (0, 0))
            write_word(memory, 0, 2, 9)
            self.assertEqual((read_word(memory, 1, 2), read_word(memory, 0, 2)), (9, 9))
            self.refused_by(memory, Barred, write_word, 1, 2, 3)

    def test_rights_of_a_part_stay(self):
        memory = memory_of(1, 1)
        share_pages(memory, 0, "a", 0, 1, 2)
        write_word(memory, 0, 0, 1)
        write_word(memory, 0, 1, 2)
        share_pages(memory, 0, "a", 1, 1, 1)
        self.assertEqual(page_read(memory, 0, 1), [1, 2, 0, 0])
        self.assertEqual([leaf.row()[:2] for leaf in memory.shares.parts("a")], [("held", 3)])


class Walks(Case):
    def test_with_no_places_each_one_is_a_walk(self):
        memory = memory_of(1, 2, 0, pages=3)
        share_pages(memory, 0, "a", 3, 1, 3)
        for turn in range(1, 20):
            write_word(memory, 0, turn * 4 % 12, turn)
            self.assertEqual(walks_of(memory), 2 * turn - 1)
            read_word(memory, 0, turn * 4 % 16)
            self.assertEqual(walks_of(memory), 2 * turn)

    def test_refused_ones_are_none(self):
        memory = memory_of(1, 0, 0, pages=2, rights=3)
        map_pages(memory, 0, 2, 1, 0)
        write_word(memory, 0, 0, 1)
        for call, more in ((read_word, ()), (write_word, (1,))):
            for kind, task, address in ((NoTask, 1, 0), (NoAddress, 0, 512), (Unmapped, 0, 12), (Barred, 0, 8)):
                self.refused_by(memory, kind, call, task, address, *more)
        self.refused_by(memory, Full, write_word, 0, 4, 1)
        self.refused_by(memory, NoWord, write_word, 0, 0, -1)
        self.assertEqual(walks_of(memory), 1)

    def test_behind_a_write_to_the_same_page_there_is_none(self):
        for near in (1, 2, 4, 8, 16, 32, 64):
            for frames, slots in ((5, 0), (1, 4)):
                memory = memory_of(frames, slots, near, tasks=2, pages=3)
                share_pages(memory, 0, "a", 3, 1, 3)
                share_pages(memory, 1, "a", 3, 1, 3)
                for turn in range(24):
                    self.none_behind(memory, turn % 2, (0, 3, 1)[turn % 3])

    def none_behind(self, memory, task, page):
        write_word(memory, task, page * 4, 5)
        walks = walks_of(memory)
        # Refused deeds and questions lie between.
        self.refused_by(memory, Unmapped, read_word, task, 511)
        self.refused_by(memory, NoWord, write_word, task, page * 4, -1)
        self.refused_by(memory, Unmapped, unmap_pages, task, page, 64)
        room_left(memory)
        self.assertEqual(read_word(memory, task, page * 4), 5)
        self.assertEqual(walks_of(memory), walks)
        write_word(memory, task, page * 4 + 1, 6)
        write_word(memory, task, page * 4 + 2, 7)
        self.assertEqual(page_read(memory, task, page)[1:3], [6, 7])

    def test_a_read_is_noted_too(self):
        for near in (1, 64):
            memory = memory_of(1, 1, near, pages=2, rights=3)
            share_pages(memory, 0, "a", 64, 1, 1)
            share_pages(memory, 0, "a", 65, 1, 2)
            write_word(memory, 0, 260, 5)
            write_word(memory, 0, 0, 6)
            for address, word in ((256, 5), (0, 6), (256, 5)):
                walks = walks_of(memory)
                self.assertEqual(read_word(memory, 0, address), word)
                self.assertEqual(walks_of(memory), walks + 1)
                self.assertEqual([read_word(memory, 0, address) for turn in range(3)], [word] * 3)
                self.assertEqual(walks_of(memory), walks + 1)

    def test_a_refused_full_write_does_not_make_it_forget(self):
        memory = memory_of(1, 0, 1, pages=2)
        write_word(memory, 0, 0, 5)
        self.refused_by(memory, Full, write_word, 0, 4, 6)
        walks = walks_of(memory)
        self.assertEqual(read_word(memory, 0, 0), 5)
        self.assertEqual(walks_of(memory), walks)


class NearTable(Case):
    """With every page near: what was known must be forgotten as soon as it isn't so any more."""

    def test_behind_an_unmap(self):
        memory = memory_of(2, 0, 64, tasks=2, pages=2)
        write_word(memory, 0, 0, 5)
        unmap_pages(memory, 0, 0, 1)
        write_word(memory, 1, 4, 6)
        self.refused_by(memory, Unmapped, read_word, 0, 0)
        map_pages(memory, 0, 0, 1, 3)
        self.assertEqual(read_word(memory, 0, 0), 0)
        write_word(memory, 0, 0, 7)
        self.assertEqual((read_word(memory, 1, 4), read_word(memory, 0, 0)), (6, 7))

    def test_behind_an_unmap_of_a_shares_page(self):
        memory = memory_of(2, 0, 64)
        share_pages(memory, 0, "a", 0, 1, 3)
        share_pages(memory, 0, "a", 1, 1, 3)
        write_word(memory, 0, 0, 5)
        self.assertEqual(read_word(memory, 0, 4), 5)
        unmap_pages(memory, 0, 0, 1)
        self.refused_by(memory, Unmapped, read_word, 0, 0)
        self.assertEqual(read_word(memory, 0, 4), 5)
        map_pages(memory, 0, 0, 1, 3)
        self.assertEqual(read_word(memory, 0, 0), 0)

    def test_behind_changed_rights(self):
        memory = memory_of(1, 0, 64, pages=1)
        write_word(memory, 0, 0, 5)
        change_rights(memory, 0, 0, 1, 1)
        self.refused_by(memory, Barred, write_word, 0, 0, 6)
        self.assertEqual(read_word(memory, 0, 0), 5)
        change_rights(memory, 0, 0, 1, 2)
        self.refused_by(memory, Barred, read_word, 0, 0)
        write_word(memory, 0, 0, 6)
        change_rights(memory, 0, 0, 1, 0)
        self.refused_by(memory, Barred, read_word, 0, 0)
        self.refused_by(memory, Barred, write_word, 0, 0, 7)

    def test_behind_moves(self):
        memory = memory_of(1, 3, 64, tasks=2, pages=2)
        for turn in range(30):
            task, page = turn % 2, turn // 2 % 2
            write_word(memory, task, page * 4, turn)
            for other in range(4):
                told = read_word(memory, other % 2, other // 2 * 4)
                self.assertEqual(told, turn - (turn - other) % 4 if turn >= other else 0)

    def test_behind_a_shares_first_write_by_another_task(self):
        memory = memory_of(2, 0, 64, tasks=2)
        for task in range(2):
            share_pages(memory, task, "a", 0, 1, 3)
            self.assertEqual(read_word(memory, task, 0), 0)
        write_word(memory, 1, 0, 4)
        self.assertEqual(read_word(memory, 0, 0), 4)


if __name__ == "__main__":
    unittest.main()
