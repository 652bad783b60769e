"""leafframe.looker: points [26], [27], and [2] for them."""

import random
import unittest

from leafframe.accesses import read_word, write_word
from leafframe.errors import NoAddress, NoTask, Unmapped
from leafframe.looker import frame_counts, leaf_rows, looked, page_words, share_rows, slot_counts, tallied
from leafframe.maps import change_rights, map_pages, share_pages
from leafframe.memories import Memory, begin_task
from leafframe.shapes import Shape
from leafframe.tasks import fork_task
from tests.helper import FAR_ABOVE, FAR_BELOW, Case, snapshot

BIG = 1 << 70


def task_row(row, task=0, page=0):
    return ("task", task, page, row)


def share_row(row, name="a", part=0):
    return ("share", name, part, row)


def busy_memory():
    """Three tasks on one frame and four slots, with all kinds of leaves."""
    memory = Memory(Shape([3, 4], 2), 1, 4, 4)
    for task in range(2):
        begin_task(memory)
    map_pages(memory, 0, 126, 2, 3)
    map_pages(memory, 1, 3, 1, 2)
    share_pages(memory, 1, "b", 0, 2, 3)
    share_pages(memory, 0, "ab", 7, 1, 1)
    write_word(memory, 0, 504, 5)
    write_word(memory, 1, 6, 8)
    write_word(memory, 1, 15, 9)
    fork_task(memory, 0)
    change_rights(memory, 2, 7, 1, 0)
    return memory


class Rows(Case):
    def test_leaves_in_their_order(self):
        memory = busy_memory()
        rows = leaf_rows(memory)
        self.assertIs(type(rows), list)
        for row in rows:
            self.assertIs(type(row), tuple)
            self.assertIs(type(row[3]), tuple)
        slots = {row[3] for row in rows if row[3][0] == "out"}
        self.assertEqual(slots, {("out", 3, 0), ("out", 3, 1)})
        self.assertEqual(rows, [
            ("task", 0, 7, ("named", 1, "ab", 0)),
            ("task", 0, 126, ("out", 3, 0)),
            ("task", 0, 127, ("fresh", 3)),
            ("task", 1, 0, ("named", 3, "b", 0)),
            ("task", 1, 1, ("named", 3, "b", 1)),
            ("task", 1, 3, ("held", 2, 0)),
            ("task", 2, 7, ("named", 0, "ab", 0)),
            ("task", 2, 126, ("out", 3, 0)),
            ("task", 2, 127, ("fresh", 3)),
            ("share", "ab", 0, ("fresh", 3)),
            ("share", "b", 0, ("fresh", 3)),
            ("share", "b", 1, ("out", 3, 1)),
        ])

    def test_tasks_above_ten_rise_as_numbers(self):
        memory = Memory(Shape([3, 4], 0), 1, 0)
        for task in range(12):
            begin_task(memory)
            map_pages(memory, task, 11 - task, 1, 1)
        self.assertEqual([row[1:3] for row in leaf_rows(memory)], [(task, 11 - task) for task in range(12)])

    def test_names_in_the_order_of_texts_and_parts(self):
        memory = Memory(Shape([3, 4], 0), 1, 0)
        begin_task(memory)
        for first, name in enumerate(("m", "b", "az", "a", "ma", "zzzzzzzz", "aa")):
            share_pages(memory, 0, name, first * 12, 12, 3)
        names = ["a", "aa", "az", "b", "m", "ma", "zzzzzzzz"]
        self.assertEqual([row[1:3] for row in leaf_rows(memory) if row[0] == "share"],
                         [(name, part) for name in names for part in range(12)])
        self.assertEqual(share_rows(memory), [(name, 12, 12) for name in names])

    def test_counts_and_shares(self):
        memory = busy_memory()
        self.assertEqual(frame_counts(memory), [1])
        self.assertEqual(slot_counts(memory), [2, 1, 0, 0])
        self.assertEqual(share_rows(memory), [("ab", 1, 2), ("b", 2, 2)])
        for told in (frame_counts(memory), slot_counts(memory), share_rows(memory)):
            self.assertIs(type(told), list)

    def test_an_empty_memory(self):
        for frames, slots in ((1, 0), (64, 64)):
            memory = Memory(Shape([1, 1], 0), frames, slots)
            self.assertEqual((leaf_rows(memory), share_rows(memory), looked(memory)), ([], [], []))
            self.assertEqual((frame_counts(memory), slot_counts(memory)), ([0] * frames, [0] * slots))

    def test_told_lists_are_the_askers_own(self):
        memory = busy_memory()
        ahead = snapshot(memory)
        calls = (leaf_rows, frame_counts, slot_counts, share_rows)
        first = [call(memory) for call in calls] + [page_words(memory, 0, 126)]
        copies = [list(told) for told in first]
        for call in calls:
            told = call(memory)
            told[0] = None
            told.append(None)
        page_words(memory, 0, 126)[1] = 77
        page_words(memory, 0, 127)[1] = 77
        page_words(memory, 1, 3)[1] = 77
        page_words(memory, 1, 1)[1] = 77
        looked(memory).append(1)
        self.assertEqual(snapshot(memory), ahead)
        self.assertEqual([call(memory) for call in calls] + [page_words(memory, 0, 126)], copies)
        write_word(memory, 0, 505, 6)
        write_word(memory, 1, 0, 6)
        self.assertEqual(first, copies)


class Words(Case):
    def test_of_each_kind_of_leaf(self):
        memory = busy_memory()
        for task, page, words in ((0, 7, [0] * 4), (0, 126, [5, 0, 0, 0]), (0, 127, [0] * 4), (1, 0, [0] * 4),
                                  (1, 1, [0, 0, 8, 0]), (1, 3, [0, 0, 0, 9]), (2, 126, [5, 0, 0, 0])):
            told = page_words(memory, task, page)
            self.assertIs(type(told), list)
            self.assertEqual(told, words)

    def test_no_right_is_needed(self):
        for rights in range(4):
            memory = busy_memory()
            change_rights(memory, 1, 3, 1, rights)
            self.assertEqual(page_words(memory, 1, 3), [0, 0, 0, 9])

    def test_refusals_in_their_order(self):
        memory = busy_memory()
        for page in (-1, 128, 129, -128) + FAR_ABOVE + FAR_BELOW:
            self.refused_by(memory, NoTask, page_words, 3, page)
            self.refused_by(memory, NoAddress, page_words, 0, page)
        for task in (3, -1) + FAR_ABOVE + FAR_BELOW:
            self.refused_by(memory, NoTask, page_words, task, 0)
            self.refused_by(memory, NoTask, page_words, task, 126)
        for task, page in ((0, 0), (0, 125), (1, 127), (2, 5)):
            error = self.refused_by(memory, Unmapped, page_words, task, page)
            self.assertEqual((error.task, error.address, error.deed), (task, page * 4, "look"))


class Looking(Case):
    def test_nothing_changes(self):
        memory = busy_memory()
        read_word(memory, 0, 504)
        ahead = snapshot(memory)
        for turn in range(2):
            leaf_rows(memory), frame_counts(memory), slot_counts(memory), share_rows(memory)
            for task, page in ((0, 126), (1, 0), (1, 1), (1, 3), (2, 127)):
                page_words(memory, task, page)
            self.assertEqual(looked(memory), [])
            self.assertEqual(snapshot(memory), ahead)

    def test_of_a_memory_whose_counts_are_off(self):
        memory = busy_memory()
        memory.pool.slot_store.more(1)
        memory.shares.more("ab")
        self.assertEqual(looked(memory), [("slot", 1, 1, 2), ("share", "ab", 2, 3)])


class Tallying(Case):
    def test_what_tallies(self):
        self.assertEqual(tallied([], [], [], []), [])
        self.assertEqual(tallied([], [0, 0], [0], [("a", 2, 0)]), [])
        rows = [task_row(("held", 3, 1)), task_row(("fresh", 3)), share_row(("held", 3, 1)), task_row(("out", 0, 0)),
                task_row(("named", 1, "a", 0)), task_row(("named", 2, "a", 5)), share_row(("fresh", 3), "b")]
        self.assertEqual(tallied(rows, [0, 2], [1, 0], [("a", 9, 2)]), [])

    def test_frames_by_more_fewer_and_no_rows(self):
        rows = [task_row(("held", 3, 0)), task_row(("held", 1, 0)), share_row(("held", 3, 2)), task_row(("held", 0, 3))]
        told = tallied(rows, [1, 4, 2, 1], [], [])
        self.assertIs(type(told), list)
        self.assertEqual(told, [("frame", 0, 2, 1), ("frame", 1, 0, 4), ("frame", 2, 1, 2)])
        for row in told:
            self.assertIs(type(row), tuple)

    def test_slots_by_more_fewer_and_no_rows(self):
        rows = [task_row(("out", 3, 0)), task_row(("out", 1, 0)), share_row(("out", 3, 2)), task_row(("out", 0, 3))]
        self.assertEqual(tallied(rows, [], [1, 4, 2, 1], []),
                         [("slot", 0, 2, 1), ("slot", 1, 0, 4), ("slot", 2, 1, 2)])

    def test_frames_and_slots_are_no_others(self):
        self.assertEqual(tallied([task_row(("held", 3, 0))], [0], [1], []), [("frame", 0, 1, 0), ("slot", 0, 0, 1)])
        self.assertEqual(tallied([task_row(("out", 3, 0))], [1], [0], []), [("frame", 0, 0, 1), ("slot", 0, 1, 0)])

    def test_numbers_without_a_count_and_far_beyond(self):
        rows = [task_row((kind, 3, number)) for kind in ("out", "held") for number in (BIG, 5, 2, 10, 10, BIG + 1, BIG)]
        told = [(2, 1), (5, 1), (10, 2), (BIG, 2), (BIG + 1, 1)]
        self.assertEqual(tallied(rows, [], [], []), [(kind, number, named, 0) for kind in ("frame", "slot")
                                                     for number, named in told])
        self.assertEqual(tallied(rows, [0, 3], [0] * 5, []),
                         [("frame", 1, 0, 3)] + [("frame", number, named, 0) for number, named in told]
                         + [("slot", number, named, 0) for number, named in told])

    def test_counts_of_any_size(self):
        self.assertEqual(tallied([task_row(("held", 0, 0))], [BIG], [BIG], [("a", BIG, BIG)]),
                         [("frame", 0, 1, BIG), ("slot", 0, 0, BIG), ("share", "a", 0, BIG)])

    def test_many_frames(self):
        self.assertEqual(tallied([], [0] * 100 + [1], [], []), [("frame", 100, 0, 1)])

    def test_shares(self):
        rows = [task_row(("named", 3, name, part)) for name, part in (("b", 0), ("b", 1), ("a", 0), ("zz", BIG), ("c", 0))]
        rows += [share_row(("fresh", 3), "d"), share_row(("held", 3, 0), "a")]
        self.assertEqual(tallied(rows, [1], [], [("c", 1, 1), ("b", 2, 1), ("e", 1, 0), ("d", 1, 2), ("a", 1, 3)]),
                         [("share", "a", 1, 3), ("share", "b", 2, 1), ("share", "d", 0, 2), ("share", "zz", 1, 0)])

    def test_all_in_their_order(self):
        rows = [task_row(("named", 0, "x", 0)), task_row(("out", 0, 7)), task_row(("held", 0, 7)), task_row(("held", 0, 1))]
        self.assertEqual(tallied(rows, [1], [1], [("y", 1, 1)]),
                         [("frame", 0, 0, 1), ("frame", 1, 1, 0), ("frame", 7, 1, 0),
                          ("slot", 0, 0, 1), ("slot", 7, 1, 0), ("share", "x", 1, 0), ("share", "y", 0, 1)])

    def test_lists_handed_in_are_not_changed(self):
        lists = [[task_row(("held", 3, 4))], [1, 0], [2], [("a", 1, 5)]]
        copies = [list(handed) for handed in lists]
        told = tallied(*lists)
        self.assertEqual(lists, copies)
        kept = list(told)
        lists[1][0] = 9
        self.assertEqual(told, kept)

    def test_as_plain_counting_would_tell(self):
        chance = random.Random(27)
        for turn in range(300):
            rows, frames, slots, shares = self.drawn(chance)
            leaves = [row[3] for row in rows]
            told = []
            for kind, what, counts in (("held", "frame", dict(enumerate(frames))), ("out", "slot", dict(enumerate(slots))),
                                       ("named", "share", {name: uses for name, many, uses in shares})):
                named = [leaf[2] for leaf in leaves if leaf[0] == kind]
                for key in sorted(set(named) | set(counts)):
                    if named.count(key) != counts.get(key, 0):
                        told.append((what, key, named.count(key), counts.get(key, 0)))
            self.assertEqual(tallied(rows, frames, slots, shares), told)

    def drawn(self, chance):
        rows = []
        for number in range(chance.randrange(12)):
            leaf = chance.choice((("fresh", 3), ("held", 1, chance.randrange(5)), ("out", 0, chance.randrange(5))))
            if chance.randrange(4) == 0:
                leaf = ("named", 2, chance.choice("abc"), chance.randrange(3))
            rows.append(task_row(leaf) if leaf[0] == "named" or chance.randrange(2) else share_row(leaf))
        names = [name for name in "cab" if chance.randrange(2)]
        return (rows, [chance.randrange(3) for number in range(chance.randrange(5))],
                [chance.randrange(3) for number in range(chance.randrange(5))],
                [(name, 1, chance.randrange(3)) for name in names])


if __name__ == "__main__":
    unittest.main()
