"""leafframe.pools: points [18], [19], and [2], [11] for them."""

import random
import unittest

from leafframe.errors import Full, NoAddress, NoNumber, NoShape, NoWord
from leafframe.leaves import Fresh, Held, Named, Out
from leafframe.pools import Pool, moved_by
from tests.helper import FAR_ABOVE, FAR_BELOW, NO_WORDS, TOP_WORD, Case


class PlainPool:
    """A pool told in plain lists: (words, count) or None for each frame and slot, marks, and the hand's place."""

    def __init__(self, frames, slots):
        self.frames, self.slots = [None] * frames, [None] * slots
        self.marks, self.at = [False] * frames, 0

    def room(self):
        return (self.frames + self.slots).count(None)

    def come(self, content):
        moves = []
        if None not in self.frames:
            while self.marks[self.at]:
                self.marks[self.at] = False
                self.at = (self.at + 1) % len(self.frames)
            slot = self.slots.index(None)
            moves = [("out", self.at, slot)]
            self.slots[slot], self.frames[self.at] = self.frames[self.at], None
            self.at = (self.at + 1) % len(self.frames)
        frame = self.frames.index(None)
        self.frames[frame], self.marks[frame] = content, True
        return frame, moves

    def made(self, words):
        return self.come((list(words), 1))

    def fetched(self, slot):
        content, self.slots[slot] = self.slots[slot], None
        frame, moves = self.come(content)
        return frame, moves + [("in", frame, slot)]

    def counted(self, kind, number, by):
        contents = self.frames if kind == "frame" else self.slots
        words, count = contents[number]
        contents[number] = (words, count + by) if count + by else None
        if kind == "frame" and count + by == 0:
            self.marks[number] = False


class PoolCase(Case):
    def holds(self, pool, plain):
        """All that the pool tells without a change is what the plain one knows."""
        for told, kept in ((pool.frames(), plain.frames), (pool.slots(), plain.slots)):
            self.assertIs(type(told), list)
            self.assertEqual(told, [content[1] if content else 0 for content in kept])
        self.assertEqual(pool.marks(), plain.marks)
        self.assertEqual(pool.room(), plain.room())
        leaves = [(Held(1, number), content) for number, content in enumerate(plain.frames)]
        leaves += [(Out(2, number), content) for number, content in enumerate(plain.slots)]
        for leaf, content in leaves:
            if content is None:
                self.refused(NoNumber, pool.words, leaf)
                self.refused(NoNumber, pool.count, leaf)
            else:
                self.assertEqual((pool.words(leaf), pool.count(leaf)), content)
        self.assertEqual(pool.marks(), plain.marks)

    def pair(self, frames, slots, contents):
        """A pool of rooms of two words, and its plain fellow, with so many contents made: [10, 10], [11, 11] .."""
        pool, plain = Pool(frames, slots, 2), PlainPool(frames, slots)
        for number in range(contents):
            words = [10 + number, 10 + number]
            self.assertEqual(pool.made(words), plain.made(words))
        self.holds(pool, plain)
        return pool, plain

    def refused_in(self, pool, plain, kind, call, *handed):
        self.refused(kind, call, *handed)
        self.holds(pool, plain)


class Moved(Case):
    MOVES = [("out", 1, 4), ("in", 1, 2), ("out", 2, 1), ("in", 3, 5), ("out", 7, 7)]

    def told(self, leaf, row, moves=None):
        moved = moved_by(leaf, self.MOVES if moves is None else moves)
        self.assertEqual(moved.row(), row)

    def test_held(self):
        for rights in range(4):
            self.told(Held(rights, 1), ("out", rights, 4))
            self.told(Held(rights, 2), ("out", rights, 1))
            self.told(Held(rights, 7), ("out", rights, 7))
            for frame in (0, 3, 4, 5, 6, 8, 64):
                self.told(Held(rights, frame), ("held", rights, frame))

    def test_out(self):
        for rights in range(4):
            self.told(Out(rights, 2), ("held", rights, 1))
            self.told(Out(rights, 5), ("held", rights, 3))
            for slot in (0, 1, 3, 4, 6, 7, 8, 64):
                self.told(Out(rights, slot), ("out", rights, slot))

    def test_others_stay(self):
        for rights in range(4):
            self.told(Fresh(rights), ("fresh", rights))
            self.told(Named(rights, "out", 1), ("named", rights, "out", 1))

    def test_all_at_once(self):
        moves = [("out", 3, 6), ("in", 3, 6)]
        self.told(Held(1, 3), ("out", 1, 6), moves)
        self.told(Out(2, 6), ("held", 2, 3), moves)
        moves = [("in", 3, 6), ("out", 3, 6)]
        self.told(Held(1, 3), ("out", 1, 6), moves)
        self.told(Out(2, 6), ("held", 2, 3), moves)
        moves = [("out", 1, 2), ("in", 5, 2), ("out", 5, 3)]
        self.told(Held(3, 1), ("out", 3, 2), moves)
        self.told(Out(3, 2), ("held", 3, 5), moves)
        self.told(Held(3, 5), ("out", 3, 3), moves)

    def test_no_moves(self):
        for leaf in (Fresh(1), Held(2, 0), Out(3, 0), Named(0, "a", 0)):
            self.told(leaf, leaf.row(), [])

    def test_the_leaf_and_the_moves_handed_in_stay(self):
        moves, held, out = [("out", 0, 1), ("in", 0, 2)], Held(1, 0), Out(2, 2)
        moved_by(held, moves)
        moved_by(out, moves)
        self.assertEqual((held.row(), out.row()), (("held", 1, 0), ("out", 2, 2)))
        self.assertEqual(moves, [("out", 0, 1), ("in", 0, 2)])


class Making(PoolCase):
    def test_empty_pools(self):
        for frames in (1, 2, 64):
            for slots in (0, 1, 64):
                for size in (1, 2, 64):
                    pool = Pool(frames, slots, size)
                    self.holds(pool, PlainPool(frames, slots))
                    self.assertEqual(pool.room(), frames + slots)
                    self.assertEqual(pool.words(Fresh(0)), [0] * size)

    def test_no_shape(self):
        for many in (-1, -2, 65, 66, 1000) + FAR_ABOVE + FAR_BELOW:
            self.refused(NoShape, Pool, many, 1, 1)
            self.refused(NoShape, Pool, 1, many, 1)
            self.refused(NoShape, Pool, 1, 1, many)
        self.refused(NoShape, Pool, 0, 1, 1)
        self.refused(NoShape, Pool, 0, 64, 1)
        self.refused(NoShape, Pool, 1, 1, 0)

    def test_into_free_frames(self):
        pool = Pool(3, 0, 2)
        for number in range(3):
            told = pool.made([number, 5])
            self.assertIs(type(told), tuple)
            self.assertIs(type(told[1]), list)
            self.assertEqual(told, (number, []))
            self.assertEqual(pool.marks(), [frame <= number for frame in range(3)])
        self.assertEqual((pool.frames(), pool.slots(), pool.room()), ([1, 1, 1], [], 0))
        self.assertEqual(pool.words(Held(3, 1)), [1, 5])

    def test_the_least_free_frame(self):
        pool, plain = self.pair(4, 1, 4)
        for frame in (2, 1):
            pool.less(Held(3, frame))
            plain.counted("frame", frame, -1)
        for number in range(2):
            self.assertEqual(pool.made([7, number]), plain.made([7, number]))
            self.holds(pool, plain)
        self.assertEqual(pool.words(Held(3, 1)), [7, 0])

    def test_with_one_put_out(self):
        pool, plain = self.pair(2, 3, 2)
        # All frames are marked: the hand clears both marks and chooses frame 0.
        self.assertEqual(pool.made([1, 2]), (0, [("out", 0, 0)]))
        plain.made([1, 2])
        self.holds(pool, plain)
        self.assertEqual(pool.marks(), [True, False])
        self.assertEqual(pool.made([3, 4]), (1, [("out", 1, 1)]))
        plain.made([3, 4])
        self.holds(pool, plain)
        self.assertEqual([pool.words(Out(1, slot)) for slot in (0, 1)], [[10, 10], [11, 11]])

    def test_words_and_counts_move_along(self):
        pool, plain = self.pair(1, 2, 1)
        for turn in range(4):
            pool.more(Held(1, 0))
            plain.counted("frame", 0, 1)
        self.assertEqual(pool.made([1, 2]), (0, [("out", 0, 0)]))
        self.assertEqual((pool.words(Out(1, 0)), pool.count(Out(1, 0))), ([10, 10], 5))
        self.assertEqual((pool.words(Held(1, 0)), pool.count(Held(1, 0))), ([1, 2], 1))
        self.assertEqual(pool.fetched(0), (0, [("out", 0, 0), ("in", 0, 0)]))
        self.assertEqual((pool.words(Held(1, 0)), pool.count(Held(1, 0))), ([10, 10], 5))
        self.assertEqual((pool.words(Out(1, 0)), pool.count(Out(1, 0))), ([1, 2], 1))

    def test_put_out_to_the_least_free_slot(self):
        pool, plain = self.pair(1, 4, 5)
        for slot in (2, 0):
            pool.less(Out(0, slot))
            plain.counted("slot", slot, -1)
        self.assertEqual(pool.made([1, 1]), (0, [("out", 0, 0)]))
        self.assertEqual(pool.made([2, 2]), (0, [("out", 0, 2)]))

    def test_the_greatest_pool_until_full(self):
        pool, plain = Pool(64, 64, 64), PlainPool(64, 64)
        for number in range(128):
            self.assertEqual(pool.made([number] * 64), plain.made([number] * 64))
        self.holds(pool, plain)
        self.refused_in(pool, plain, Full, pool.made, [0] * 64)
        self.assertEqual(pool.fetched(63), plain.fetched(63))
        self.holds(pool, plain)

    def test_full_just_where_neither_a_frame_nor_a_slot_is_free(self):
        for frames in (1, 2, 3):
            for slots in (0, 1, 2):
                pool, plain = self.pair(frames, slots, frames + slots)
                self.refused_in(pool, plain, Full, pool.made, [1, 2])
                pool.less(Held(0, 0))
                plain.counted("frame", 0, -1)
                self.assertEqual(pool.made([1, 2]), plain.made([1, 2]))
                self.holds(pool, plain)
                self.refused_in(pool, plain, Full, pool.made, [1, 2])
                for slot in range(slots):
                    pool.less(Out(0, slot))
                    plain.counted("slot", slot, -1)
                    self.assertEqual(pool.made([1, 3]), plain.made([1, 3]))
                    self.holds(pool, plain)
                    self.refused_in(pool, plain, Full, pool.made, [1, 2])

    def test_a_refusal_moves_no_hand(self):
        pool, plain = self.pair(3, 1, 4)
        for turn in range(2):
            self.refused_in(pool, plain, Full, pool.made, [1, 2])
            self.refused_in(pool, plain, NoWord, pool.made, [1])
            self.refused_in(pool, plain, NoNumber, pool.fetched, 1)
        for turn in range(4):
            self.assertEqual(pool.fetched(0), plain.fetched(0))
            self.refused_in(pool, plain, Full, pool.made, [1, 2])

    def test_no_word_ahead_of_full(self):
        for contents in (0, 2, 3):
            pool, plain = self.pair(2, 1, contents)
            for words in ([], [1], [1, 2, 3], [0] * 64):
                self.refused_in(pool, plain, NoWord, pool.made, words)
            for thing in NO_WORDS:
                self.refused(NoWord, pool.made, [1, thing])
                self.refused(NoWord, pool.made, [thing, 1])
            self.holds(pool, plain)


class Fetching(PoolCase):
    def test_into_a_free_frame(self):
        pool, plain = self.pair(2, 2, 3)
        pool.less(Held(0, 1))
        plain.counted("frame", 1, -1)
        told = pool.fetched(0)
        self.assertIs(type(told), tuple)
        self.assertIs(type(told[1]), list)
        self.assertEqual(told, (1, [("in", 1, 0)]))
        self.assertEqual(plain.fetched(0), told)
        self.holds(pool, plain)
        self.assertEqual(pool.slots(), [0, 0])

    def test_with_one_put_out_to_the_very_slot(self):
        pool, plain = self.pair(2, 1, 3)
        self.assertEqual(pool.words(Out(0, 0)), [10, 10])
        self.assertEqual(pool.fetched(0), (1, [("out", 1, 0), ("in", 1, 0)]))
        plain.fetched(0)
        self.holds(pool, plain)
        self.assertEqual((pool.words(Held(0, 1)), pool.words(Out(0, 0))), ([10, 10], [11, 11]))

    def test_with_one_put_out_to_a_slot_below_or_above(self):
        pool, plain = self.pair(1, 3, 3)
        self.assertEqual(pool.slots(), [1, 1, 0])
        self.assertEqual(pool.fetched(1), (0, [("out", 0, 1), ("in", 0, 1)]))
        pool.less(Out(0, 0))
        self.assertEqual(pool.fetched(1), (0, [("out", 0, 0), ("in", 0, 1)]))
        self.assertEqual(pool.slots(), [1, 0, 0])
        pool, plain = self.pair(1, 3, 4)
        pool.less(Out(0, 1))
        self.assertEqual(pool.fetched(0), (0, [("out", 0, 0), ("in", 0, 0)]))
        self.assertEqual(pool.slots(), [1, 0, 1])

    def test_marks(self):
        pool, plain = self.pair(3, 3, 4)
        self.assertEqual(pool.marks(), [True, False, False])
        self.assertEqual(pool.fetched(0), (1, [("out", 1, 0), ("in", 1, 0)]))
        self.assertEqual(pool.marks(), [True, True, False])
        pool.word(2, 0)
        self.assertEqual(pool.marks(), [True, True, True])
        # The hand stands at 2: all marks are cleared, and it ends there.
        self.assertEqual(pool.fetched(0), (2, [("out", 2, 0), ("in", 2, 0)]))
        self.assertEqual(pool.marks(), [False, False, True])

    def test_a_free_slot_or_none(self):
        for contents in (1, 2, 4):
            pool, plain = self.pair(2, 3, contents)
            for slot in (2, 3, 4, -1, -2, -3, 64) + FAR_ABOVE + FAR_BELOW:
                self.refused_in(pool, plain, NoNumber, pool.fetched, slot)
        pool, plain = self.pair(2, 0, 2)
        for slot in (0, -1, 1):
            self.refused_in(pool, plain, NoNumber, pool.fetched, slot)

    def test_until_all_have_been_in(self):
        pool, plain = self.pair(2, 5, 7)
        for turn in range(40):
            self.assertEqual(pool.fetched(turn * 3 % 5), plain.fetched(turn * 3 % 5))
            self.holds(pool, plain)


class WordsInFrames(PoolCase):
    def test_word_and_put_mark_their_frame_alone(self):
        for call in ("word", "put"):
            for frame in range(4):
                pool, plain = self.pair(4, 2, 5)
                marks = [number == frame or number == 0 for number in range(4)]
                if call == "word":
                    self.assertEqual(pool.word(frame, 1), pool.words(Held(0, frame))[1])
                else:
                    pool.put(frame, 1, TOP_WORD)
                    self.assertEqual(pool.words(Held(0, frame))[1], TOP_WORD)
                self.assertEqual(pool.marks(), marks)

    def test_each_place(self):
        pool = Pool(2, 0, 64)
        words = [place * 3 for place in range(64)]
        pool.made([0] * 64)
        pool.made(words)
        for place in range(64):
            self.assertEqual(pool.word(1, place), words[place])
            pool.put(1, place, place + 7)
            words[place] = place + 7
            self.assertEqual(pool.words(Held(0, 1)), words)
        self.assertEqual(pool.words(Held(0, 0)), [0] * 64)

    def test_no_number_no_address_no_word_in_this_order(self):
        pool, plain = self.pair(3, 2, 4)
        pool.less(Held(0, 1))
        plain.counted("frame", 1, -1)
        for frame in (1, 3, 4, -1, -3, 64) + FAR_ABOVE + FAR_BELOW:
            for place in (0, 2, -1):
                self.refused_in(pool, plain, NoNumber, pool.word, frame, place)
                for word in (1, -1, None):
                    self.refused_in(pool, plain, NoNumber, pool.put, frame, place, word)
        for place in (-1, -2, 2, 3, 64) + FAR_ABOVE + FAR_BELOW:
            self.refused_in(pool, plain, NoAddress, pool.word, 2, place)
            for word in (1, -1, None):
                self.refused_in(pool, plain, NoAddress, pool.put, 2, place, word)
        for thing in NO_WORDS:
            self.refused_in(pool, plain, NoWord, pool.put, 2, 1, thing)


class Leaves(PoolCase):
    def test_more_and_less_of_held_and_out(self):
        pool, plain = self.pair(2, 2, 4)
        for kind, leaf in (("frame", Held(0, 1)), ("slot", Out(3, 0))):
            for by in (1, 1, -1, 1, -1, -1, -1):
                (pool.more if by == 1 else pool.less)(leaf)
                plain.counted(kind, leaf.frame if kind == "frame" else leaf.slot, by)
                self.holds(pool, plain)
            self.refused_in(pool, plain, NoNumber, pool.more, leaf)
            self.refused_in(pool, plain, NoNumber, pool.less, leaf)
        self.assertEqual((pool.frames(), pool.slots(), pool.room()), ([1, 0], [0, 1], 2))

    def test_of_fresh_and_named_nothing_is_done(self):
        pool, plain = self.pair(2, 2, 3)
        for rights in range(4):
            for leaf in (Fresh(rights), Named(rights, "a", 0), Named(rights, "", 999)):
                pool.more(leaf)
                pool.less(leaf)
                self.holds(pool, plain)

    def test_words_and_count_of_each_kind(self):
        pool, plain = self.pair(1, 1, 2)
        pool.more(Out(0, 0))
        for rights in range(4):
            self.assertEqual((pool.words(Fresh(rights)), pool.count(Fresh(rights))), ([0, 0], 0))
            self.assertEqual((pool.words(Held(rights, 0)), pool.count(Held(rights, 0))), ([11, 11], 1))
            self.assertEqual((pool.words(Out(rights, 0)), pool.count(Out(rights, 0))), ([10, 10], 2))

    def test_a_frame_that_becomes_free_loses_its_mark(self):
        pool, plain = self.pair(2, 1, 2)
        pool.more(Held(0, 0))
        pool.less(Held(0, 0))
        self.assertEqual(pool.marks(), [True, True])
        pool.less(Held(0, 0))
        self.assertEqual(pool.marks(), [False, True])

    def test_to_look_marks_nothing(self):
        pool, plain = self.pair(2, 1, 3)
        self.assertEqual(pool.marks(), [True, False])
        for leaf in (Held(0, 0), Held(0, 1), Out(0, 0), Fresh(0)):
            pool.words(leaf)
            pool.count(leaf)
            pool.more(leaf)
            pool.less(leaf)
        self.assertEqual(pool.marks(), [True, False])

    def test_a_frame_or_slot_that_is_free_or_none(self):
        pool, plain = self.pair(3, 3, 2)
        numbers = (2, 3, 4, -1, -2, -3, 64) + FAR_ABOVE + FAR_BELOW
        for leaf in [Held(1, number) for number in numbers] + [Out(1, number) for number in numbers + (0, 1)]:
            for call in (pool.more, pool.less, pool.words, pool.count):
                self.refused_in(pool, plain, NoNumber, call, leaf)


class Lists(PoolCase):
    def test_words_handed_in_are_copied_and_not_changed(self):
        pool, words = Pool(2, 1, 2), [1, 2]
        pool.made(words)
        words[0] = 9
        words.append(3)
        self.assertEqual(pool.words(Held(0, 0)), [1, 2])
        others = [3, 4]
        pool.made(others)
        pool.put(1, 0, 8)
        pool.made([5, 6])
        self.assertEqual(others, [3, 4])

    def test_told_lists_are_the_askers_own(self):
        pool, plain = self.pair(2, 2, 3)
        made = pool.made([7, 7])
        plain.made([7, 7])
        for told in (pool.words(Held(0, 0)), pool.words(Out(0, 0)), pool.words(Fresh(0)), pool.frames(), pool.slots(),
                     pool.marks(), made[1]):
            told[0] = 99
            told.append(98)
        self.holds(pool, plain)
        self.assertEqual(pool.words(Fresh(0)), [0, 0])
        fetched = pool.fetched(1)
        plain.fetched(1)
        kept = [pool.words(Held(0, 0)), pool.words(Out(0, 0)), pool.frames(), pool.slots(), pool.marks(), fetched[1]]
        copies = [list(told) for told in kept]
        pool.put(0, 0, 55)
        pool.more(Out(0, 0))
        pool.fetched(0)
        pool.less(Held(0, 1))
        self.assertEqual(kept, copies)

    def test_two_know_nothing_of_each_other(self):
        one, plain = self.pair(2, 2, 3)
        other, others = self.pair(2, 2, 1)
        other.made([5, 5])
        others.made([5, 5])
        self.holds(one, plain)
        self.holds(other, others)


class LongRow(PoolCase):
    def test_as_plain_lists_would_answer(self):
        for frames, slots in ((1, 0), (1, 1), (1, 3), (2, 2), (3, 1), (4, 6), (64, 2)):
            chance = random.Random(frames * 100 + slots)
            pool, plain = Pool(frames, slots, 2), PlainPool(frames, slots)
            for turn in range(500):
                getattr(self, chance.choice(("make", "make", "fetch", "touch", "count")))(chance, pool, plain)
                self.holds(pool, plain)

    def make(self, chance, pool, plain):
        words = [chance.randrange(99), chance.randrange(99)]
        if plain.room() == 0:
            self.refused(Full, pool.made, words)
        else:
            self.assertEqual(pool.made(words), plain.made(words))

    def fetch(self, chance, pool, plain):
        slot = chance.randrange(-1, len(plain.slots) + 1)
        if not 0 <= slot < len(plain.slots) or plain.slots[slot] is None:
            self.refused(NoNumber, pool.fetched, slot)
        else:
            self.assertEqual(pool.fetched(slot), plain.fetched(slot))

    def touch(self, chance, pool, plain):
        frame, place, word = chance.randrange(len(plain.frames)), chance.randrange(2), chance.randrange(99)
        if plain.frames[frame] is None:
            self.refused(NoNumber, pool.put, frame, place, word)
            return
        plain.marks[frame] = True
        if chance.randrange(2):
            self.assertEqual(pool.word(frame, place), plain.frames[frame][0][place])
        else:
            plain.frames[frame][0][place] = word
            pool.put(frame, place, word)

    def count(self, chance, pool, plain):
        kind = chance.choice(("frame", "slot"))
        contents = plain.frames if kind == "frame" else plain.slots
        number, more = chance.randrange(-1, len(contents) + 1), chance.randrange(3) == 0
        leaf = Held(0, number) if kind == "frame" else Out(0, number)
        call = pool.more if more else pool.less
        if not 0 <= number < len(contents) or contents[number] is None:
            self.refused(NoNumber, call, leaf)
            return
        call(leaf)
        plain.counted(kind, number, 1 if more else -1)


if __name__ == "__main__":
    unittest.main()
