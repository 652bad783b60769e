"""The whole: points [3] to [6], and [2], [25], over rows of deeds drawn at random."""

import random
import unittest

from leafframe.leaves import Held, Named
from leafframe.looker import frame_counts, leaf_rows, looked, page_words, share_rows, slot_counts
from leafframe.memories import Memory, live_tasks, room_left, walks_of
from leafframe.shapes import Shape
from leafframe.tasks import end_task
from tests.helper import FAR_ABOVE, FAR_BELOW, NO_NAMES, Case, FlatMemory, answer_of, snapshot

# widths, low, the pages that are mostly used
SHAPES = (
    ([1, 1], 0, range(4)),
    ([1, 2], 1, range(8)),
    ([3, 4], 2, list(range(6)) + [15, 16, 17, 127]),
    ([1, 2, 1], 1, range(16)),
    ([24, 24, 24], 6, [0, 1, 2, 2 ** 24 - 1, 2 ** 24, 2 ** 48 - 1, 2 ** 48, 2 ** 72 - 2, 2 ** 72 - 1]),
)
# frames, slots
ROOMS = ((1, 0), (1, 1), (1, 4), (2, 3), (3, 0), (4, 4), (64, 64))
NEARS = (0, 1, 2, 4, 8, 16, 32, 64)
MOST_LEAVES = 60


class Drawing:
    """Deeds drawn at random, most of them such that they may well be done."""

    def __init__(self, seed, shape, pages):
        self.chance, self.shape, self.pages = random.Random(seed), shape, list(pages)

    def deed(self, flat):
        kinds = ["write"] * 8 + ["read"] * 6 + ["map", "share", "unmap", "rights"]
        if flat.leaf_count() < MOST_LEAVES // 2:
            kinds += ["map", "map", "share"]
        if len(flat.tasks) < 6 and flat.leaf_count() < MOST_LEAVES:
            kinds += ["begin", "fork", "fork"] if flat.tasks else ["begin"] * 20
        if len(flat.tasks) > 2 and self.chance.randrange(2):
            kinds += ["end"]
        kind = self.chance.choice(kinds)
        return kind, getattr(self, kind)(flat)

    def odd(self):
        return self.chance.randrange(30) == 0

    def task(self, flat):
        if self.odd() or not flat.tasks:
            return self.chance.choice((-1, 1, 2, 7, 1 << 70))
        return self.chance.choice(sorted(flat.tasks))

    def stretch(self, pages):
        if self.odd():
            return [self.chance.choice((-1, 0, self.shape.pages() - 1, self.shape.pages()) + FAR_ABOVE + FAR_BELOW),
                    self.chance.choice((-1, 0, 1, 2, 64, 65) + FAR_ABOVE + FAR_BELOW)]
        return [self.chance.choice(pages), self.chance.choice((1, 1, 1, 2, 2, 3, 4))]

    def pages_of(self, flat, task):
        """Mostly the pages that the task has, if it has any."""
        mapped = sorted(flat.tasks.get(task, ()))
        return mapped if mapped and self.chance.randrange(8) else self.pages

    def right(self):
        return self.chance.choice((-1, 4, 5) + FAR_ABOVE) if self.odd() else self.chance.choice((0, 1, 2, 3, 3, 3, 3))

    def address(self, pages):
        if self.odd():
            return self.chance.choice((-1, self.shape.pages() * self.shape.size()) + FAR_BELOW + FAR_ABOVE[2:])
        return self.chance.choice(pages) * self.shape.size() + self.chance.randrange(self.shape.size())

    def begin(self, flat):
        return []

    def fork(self, flat):
        return [self.task(flat)]

    end = fork

    def map(self, flat):
        return [self.task(flat)] + self.stretch(self.pages) + [self.right()]

    def unmap(self, flat):
        task = self.task(flat)
        return [task] + self.stretch(self.pages_of(flat, task))

    def rights(self, flat):
        return self.unmap(flat) + [self.right()]

    def share(self, flat):
        name = self.chance.choice(NO_NAMES) if self.odd() else self.chance.choice(("a", "b", "abcdefgh"))
        return [self.task(flat), name] + self.stretch(self.pages) + [self.right()]

    def read(self, flat):
        task = self.task(flat)
        return [task, self.address(self.pages_of(flat, task))]

    def write(self, flat):
        word = self.chance.choice((-1, 2 ** 64)) if self.odd() else self.chance.choice((0, 1, 2 ** 64 - 1, 5, 6, 7))
        return self.read(flat) + [word]


class WholeCase(Case):
    def tallies(self, memory, flat):
        """[6]: counts, uses and words are those of the leaves and of the flat memories."""
        self.assertEqual(looked(memory), [])
        self.assertEqual(live_tasks(memory), sorted(flat.tasks))
        rows = leaf_rows(memory)
        self.assertEqual([row[1:3] for row in rows if row[0] == "task"],
                         [(task, page) for task in sorted(flat.tasks) for page in sorted(flat.tasks[task])])
        for kind, task, page, row in rows:
            if kind == "task":
                self.assertEqual(row[1], flat.tasks[task][page][0])
                self.assertEqual(page_words(memory, task, page), flat.tasks[task][page][1][0])
        for kind, counts in (("held", frame_counts(memory)), ("out", slot_counts(memory))):
            named = [row[3][2] for row in rows if row[3][0] == kind]
            self.assertEqual(counts, [named.count(number) for number in range(len(counts))])
        named = [row[3][2] for row in rows if row[3][0] == "named"]
        self.assertEqual(share_rows(memory), [(name, len(flat.shares[name]["rows"]), named.count(name))
                                              for name in sorted(flat.shares)])
        self.assertEqual(room_left(memory), flat.room - flat.contents)

    def near_is_so(self, memory):
        """[25]: each row of the near-table tells what it would be told now."""
        for task, page, frame, rights in memory.near.rows():
            leaf = memory.spaces[task].leaf(page)
            content = memory.shares.leaf(leaf.name, leaf.part) if isinstance(leaf, Named) else leaf
            self.assertEqual(content.row(), ("held", content.rights, frame))
            alone = isinstance(leaf, Named) or memory.pool.count(Held(0, frame)) == 1
            self.assertEqual(rights, leaf.rights if alone else leaf.rights & 1)


class AgainstFlatMemories(WholeCase):
    def test_all_shapes_rooms_and_near_tables(self):
        seed = 0
        for widths, low, pages in SHAPES:
            for frames, slots in ROOMS:
                seed += 1
                near = NEARS[seed % len(NEARS)]
                self.run_deeds(seed, Shape(widths, low), pages, frames, slots, near, 250)

    def test_every_near_table_where_few_frames_are_much_used(self):
        for near in NEARS:
            self.run_deeds(1000 + near, Shape([1, 2], 1), range(8), 2, 6, near, 500)

    def run_deeds(self, seed, shape, pages, frames, slots, near, turns):
        memory, flat = Memory(shape, frames, slots, near), FlatMemory(shape, frames + slots)
        drawing, last = Drawing(seed, shape, pages), None
        for turn in range(turns):
            deed, handed = drawing.deed(flat)
            ahead = snapshot(memory)
            answer = answer_of(memory, deed, handed)
            self.assertEqual(answer, flat.answer(deed, handed), (seed, turn, deed))
            if answer[0] != "told":
                self.assertEqual(snapshot(memory), ahead, (seed, turn, deed))
                continue
            self.walked(near, walks_of(memory) - ahead[-1], deed, handed, last, shape)
            last = (deed, handed)
            self.tallies(memory, flat)
            self.near_is_so(memory)
        self.all_ended(memory, drawing.chance)

    def all_ended(self, memory, chance):
        tasks = live_tasks(memory)
        chance.shuffle(tasks)
        for task in tasks:
            end_task(memory, task)
            self.assertEqual(looked(memory), [])
        self.assertEqual((leaf_rows(memory), share_rows(memory), memory.near.rows()), ([], [], []))
        self.assertEqual(set(frame_counts(memory) + slot_counts(memory)), {0})

    def walked(self, near, walks, deed, handed, last, shape):
        if deed not in ("read", "write"):
            self.assertEqual(walks, 0)
        elif near == 0:
            self.assertEqual(walks, 1)
        elif last[0] == "write" and self.place(shape, last) == self.place(shape, (deed, handed)):
            self.assertEqual(walks, 0)
        else:
            self.assertIn(walks, (0, 1))

    def place(self, shape, told):
        return told[1][0], told[1][1] // shape.size()


class TwoMemories(WholeCase):
    def test_other_frames_and_near_tables_give_the_same_answers(self):
        for seed, (widths, low, pages) in enumerate(SHAPES):
            for together in (1, 2, 5, 8):
                self.run_deeds(seed * 10 + together, Shape(widths, low), pages, together)

    def run_deeds(self, seed, shape, pages, together):
        memories = [Memory(shape, frames, together - frames, near)
                    for frames in sorted({1, (together + 1) // 2, together}) for near in (0, 1, 64)]
        flat, drawing = FlatMemory(shape, together), Drawing(seed, shape, pages)
        for turn in range(250):
            deed, handed = drawing.deed(flat)
            answer = flat.answer(deed, handed)
            for memory in memories:
                self.assertEqual(answer_of(memory, deed, handed), answer)
                self.assertEqual(room_left(memory), together - flat.contents)
                self.assertEqual(live_tasks(memory), sorted(flat.tasks))


class Again(WholeCase):
    def test_the_same_deeds_leave_the_same_memory_and_refused_ones_may_be_left_out(self):
        for seed, (widths, low, pages) in enumerate(SHAPES):
            for frames, slots, near in ((1, 2, 1), (2, 3, 0), (3, 1, 64)):
                self.run_deeds(seed, Shape(widths, low), pages, frames, slots, near)

    def run_deeds(self, seed, shape, pages, frames, slots, near):
        one, other, third = [Memory(shape, frames, slots, near) for number in range(3)]
        flat, drawing = FlatMemory(shape, frames + slots), Drawing(seed, shape, pages)
        for turn in range(200):
            deed, handed = drawing.deed(flat)
            answer = flat.answer(deed, handed)
            self.assertEqual(answer_of(one, deed, handed), answer)
            self.assertEqual(answer_of(other, deed, list(handed)), answer)
            if answer[0] == "told":
                self.assertEqual(answer_of(third, deed, handed), answer)
        self.assertEqual(snapshot(one), snapshot(other))
        self.assertEqual(snapshot(one), snapshot(third))


if __name__ == "__main__":
    unittest.main()
