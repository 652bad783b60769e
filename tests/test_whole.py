"""The whole: points [3] to [6], and [2], [25], over rows of deeds drawn at random."""

import random
import unittest

from leafframe.leaves import Held, Named
from leafframe.memories import Memory, live_tasks, room_left, walks_of
from leafframe.shapes import Shape
from tests.helper import FAR_ABOVE, FAR_BELOW, NO_NAMES, Case, FlatMemory, answer_of, snapshot

# widths, low, the pages that are mostly used
SHAPES = (
    ([1, 1], 0, range(4)),
    ([1, 2], 1, range(8)),
    ([3, 4], 2, list(range(6)) + [15, 16, 17, 127]),
    ([1, 2, 1], 1, range(16)),
    ([24, 24, 24], 6, [0, 1, 2, 2 ** 24 - 1, 2 ** 24, 2 ** 48 - 1, 2 ** 48, 2 ** 72 - 2, 2 ** 72 - 1]),
)
# frames, slots
ROOMS = ((1, 0), (1, 1), (1, 4), (2, 3), (3, 0), (4, 4), (64, 64))
NEARS = (0, 1, 2, 4, 8, 16, 32, 64)
MOST_LEAVES = 60


class Drawing:
    """Deeds drawn at random, most of them such that they may well be done."""

    def __init__(self, seed, shape, pages):
        self.chance, self.shape, self.pages = random.Random(seed), shape, list(pages)

    def deed(self, flat):
        kinds = ["write"] * 8 + ["read"] * 6 + ["map", "share", "unmap", "rights"]
        if flat.leaf_count() < MOST_LEAVES // 2:
            kinds += ["map", "map", "share"]
        if len(flat.tasks) < 4:
            kinds += ["begin"] * (1 if flat.tasks else 20)
        kind = self.chance.choice(kinds)
        return kind, getattr(self, kind)(flat)

    def odd(self):
        return self.chance.randrange(30) == 0

    def task(self, flat):
        if self.odd() or not flat.tasks:
            return self.chance.choice((-1, 1, 2, 7, 1 << 70))
        return self.chance.choice(sorted(flat.tasks))

    def stretch(self):
        if self.odd():
            return [self.chance.choice((-1, 0, self.shape.pages() - 1, self.shape.pages()) + FAR_ABOVE + FAR_BELOW),
                    self.chance.choice((-1, 0, 1, 2, 64, 65) + FAR_ABOVE + FAR_BELOW)]
        return [self.chance.choice(self.pages), self.chance.choice((1, 1, 1, 2, 2, 3, 4))]

    def right(self):
        return self.chance.choice((-1, 4, 5) + FAR_ABOVE) if self.odd() else self.chance.choice((0, 1, 2, 3, 3, 3, 3))

    def address(self):
        if self.odd():
            return self.chance.choice((-1, self.shape.pages() * self.shape.size()) + FAR_BELOW + FAR_ABOVE[2:])
        return self.chance.choice(self.pages) * self.shape.size() + self.chance.randrange(self.shape.size())

    def begin(self, flat):
        return []

    def map(self, flat):
        return [self.task(flat)] + self.stretch() + [self.right()]

    def unmap(self, flat):
        return [self.task(flat)] + self.stretch()

    rights = map

    def share(self, flat):
        name = self.chance.choice(NO_NAMES) if self.odd() else self.chance.choice(("a", "b", "abcdefgh"))
        return [self.task(flat), name] + self.stretch() + [self.right()]

    def read(self, flat):
        return [self.task(flat), self.address()]

    def write(self, flat):
        word = self.chance.choice((-1, 2 ** 64)) if self.odd() else self.chance.choice((0, 1, 2 ** 64 - 1, 5, 6, 7))
        return [self.task(flat), self.address(), word]


class WholeCase(Case):
    def tallies(self, memory, flat):
        """[6]: counts, uses and words are those of the leaves and of the flat memories."""
        frames, slots, uses = [0] * len(memory.pool.frames()), [0] * len(memory.pool.slots()), {}
        self.assertEqual(sorted(memory.spaces), sorted(flat.tasks))
        leaves = [leaf for name, many, used in memory.shares.rows() for leaf in memory.shares.parts(name)]
        for task, space in memory.spaces.items():
            self.assertEqual([page for page, leaf in space.rows()], sorted(flat.tasks[task]))
            leaves += [leaf for page, leaf in space.rows()]
            for page, leaf in space.rows():
                self.assertEqual(leaf.rights, flat.tasks[task][page][0])
                self.assertEqual(self.words(memory, leaf), flat.tasks[task][page][1][0])
        for row in [leaf.row() for leaf in leaves]:
            if row[0] == "held":
                frames[row[2]] += 1
            elif row[0] == "out":
                slots[row[2]] += 1
            elif row[0] == "named":
                uses[row[2]] = uses.get(row[2], 0) + 1
        self.assertEqual((memory.pool.frames(), memory.pool.slots()), (frames, slots))
        self.assertEqual({name: used for name, many, used in memory.shares.rows()}, uses)
        self.assertEqual(room_left(memory), flat.room - flat.contents)

    def words(self, memory, leaf):
        return memory.pool.words(memory.shares.leaf(leaf.name, leaf.part) if isinstance(leaf, Named) else leaf)

    def near_is_so(self, memory):
        """[25]: each row of the near-table tells what it would be told now."""
        for task, page, frame, rights in memory.near.rows():
            leaf = memory.spaces[task].leaf(page)
            content = memory.shares.leaf(leaf.name, leaf.part) if isinstance(leaf, Named) else leaf
            self.assertEqual(content.row(), ("held", content.rights, frame))
            alone = isinstance(leaf, Named) or memory.pool.count(Held(0, frame)) == 1
            self.assertEqual(rights, leaf.rights if alone else leaf.rights & 1)


class AgainstFlatMemories(WholeCase):
    def test_all_shapes_rooms_and_near_tables(self):
        seed = 0
        for widths, low, pages in SHAPES:
            for frames, slots in ROOMS:
                seed += 1
                near = NEARS[seed % len(NEARS)]
                self.run_deeds(seed, Shape(widths, low), pages, frames, slots, near, 250)

    def test_every_near_table_where_few_frames_are_much_used(self):
        for near in NEARS:
            self.run_deeds(1000 + near, Shape([1, 2], 1), range(8), 2, 6, near, 500)

    def run_deeds(self, seed, shape, pages, frames, slots, near, turns):
        memory, flat = Memory(shape, frames, slots, near), FlatMemory(shape, frames + slots)
        drawing, last = Drawing(seed, shape, pages), None
        for turn in range(turns):
            deed, handed = drawing.deed(flat)
            ahead = snapshot(memory)
            answer = answer_of(memory, deed, handed)
            self.assertEqual(answer, flat.answer(deed, handed), (seed, turn, deed))
            if answer[0] != "told":
                self.assertEqual(snapshot(memory), ahead, (seed, turn, deed))
                continue
            self.walked(near, walks_of(memory) - ahead[-1], deed, handed, last, shape)
            last = (deed, handed)
            self.tallies(memory, flat)
            self.near_is_so(memory)

    def walked(self, near, walks, deed, handed, last, shape):
        if deed not in ("read", "write"):
            self.assertEqual(walks, 0)
        elif near == 0:
            self.assertEqual(walks, 1)
        elif last[0] == "write" and self.place(shape, last) == self.place(shape, (deed, handed)):
            self.assertEqual(walks, 0)
        else:
            self.assertIn(walks, (0, 1))

    def place(self, shape, told):
        return told[1][0], told[1][1] // shape.size()


class TwoMemories(WholeCase):
    def test_other_frames_and_near_tables_give_the_same_answers(self):
        for seed, (widths, low, pages) in enumerate(SHAPES):
            for together in (1, 2, 5, 8):
                self.run_deeds(seed * 10 + together, Shape(widths, low), pages, together)

    def run_deeds(self, seed, shape, pages, together):
        memories = [Memory(shape, frames, together - frames, near)
                    for frames in sorted({1, (together + 1) // 2, together}) for near in (0, 1, 64)]
        flat, drawing = FlatMemory(shape, together), Drawing(seed, shape, pages)
        for turn in range(250):
            deed, handed = drawing.deed(flat)
            answer = flat.answer(deed, handed)
            for memory in memories:
                self.assertEqual(answer_of(memory, deed, handed), answer)
                self.assertEqual(room_left(memory), together - flat.contents)
                self.assertEqual(live_tasks(memory), sorted(flat.tasks))


class Again(WholeCase):
    def test_the_same_deeds_leave_the_same_memory_and_refused_ones_may_be_left_out(self):
        for seed, (widths, low, pages) in enumerate(SHAPES):
            for frames, slots, near in ((1, 2, 1), (2, 3, 0), (3, 1, 64)):
                self.run_deeds(seed, Shape(widths, low), pages, frames, slots, near)

    def run_deeds(self, seed, shape, pages, frames, slots, near):
        one, other, third = [Memory(shape, frames, slots, near) for number in range(3)]
        flat, drawing = FlatMemory(shape, frames + slots), Drawing(seed, shape, pages)
        for turn in range(200):
            deed, handed = drawing.deed(flat)
            answer = flat.answer(deed, handed)
            self.assertEqual(answer_of(one, deed, handed), answer)
            self.assertEqual(answer_of(other, deed, list(handed)), answer)
            if answer[0] == "told":
                self.assertEqual(answer_of(third, deed, handed), answer)
        self.assertEqual(snapshot(one), snapshot(other))
        self.assertEqual(snapshot(one), snapshot(third))


if __name__ == "__main__":
    unittest.main()
