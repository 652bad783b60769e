"""The pool: frames, slots for what is put out of them, and the hand that chooses."""

from leafframe.errors import Full
from leafframe.hands import Hand
from leafframe.leaves import Held, Out
from leafframe.stores import Store


def moved_by(leaf, moves):
    # The first move that names the leaf is the only one: all moves of a list happen at once.
    for way, frame, slot in moves:
        if way == "out" and isinstance(leaf, Held) and leaf.frame == frame:
            return Out(leaf.rights, slot)
        if way == "in" and isinstance(leaf, Out) and leaf.slot == slot:
            return Held(leaf.rights, frame)
    return leaf


class Pool:
    def __init__(self, frames, slots, size):
        self.frame_store = Store(frames, size)
        self.slot_store = Store(slots, size)
        self.hand = Hand(frames)
        self.length = size

    def made(self, words):
        self.frame_store.check_words(words)
        if self.room() == 0:
            raise Full("neither a frame nor a slot is free")
        moves = self.put_out()
        return (self.brought_in(words, 1), moves)

    def fetched(self, slot):
        # The slot is freed first, so that what is put out may go to this very one.
        content = self.slot_store.gone(slot)
        moves = self.put_out()
        frame = self.brought_in(content[0], content[1])
        return (frame, moves + [("in", frame, slot)])

    def put_out(self):
        """Makes a frame free where none is; there must be a free slot then. Tells the moves."""
        if self.frame_store.free() > 0:
            return []
        frame = self.hand.chosen()
        content = self.frame_store.gone(frame)
        return [("out", frame, self.slot_store.made(content[0], content[1]))]

    def brought_in(self, words, count):
        frame = self.frame_store.made(words, count)
        self.hand.mark(frame)
        return frame

    def word(self, frame, place):
        word = self.frame_store.word(frame, place)
        self.hand.mark(frame)
        return word

    def put(self, frame, place, word):
        self.frame_store.put(frame, place, word)
        self.hand.mark(frame)

    def more(self, leaf):
        if isinstance(leaf, Held):
            self.frame_store.more(leaf.frame)
        if isinstance(leaf, Out):
            self.slot_store.more(leaf.slot)

    def less(self, leaf):
        if isinstance(leaf, Held) and self.frame_store.less(leaf.frame) == 0:
            self.hand.unmark(leaf.frame)
        if isinstance(leaf, Out):
            self.slot_store.less(leaf.slot)

    def words(self, leaf):
        if isinstance(leaf, Held):
            return self.frame_store.words(leaf.frame)
        if isinstance(leaf, Out):
            return self.slot_store.words(leaf.slot)
        return [0] * self.length

    def count(self, leaf):
        if isinstance(leaf, Held):
            return self.frame_store.count(leaf.frame)
        if isinstance(leaf, Out):
            return self.slot_store.count(leaf.slot)
        return 0

    def frames(self):
        return self.frame_store.counts()

    def slots(self):
        return self.slot_store.counts()

    def marks(self):
        return self.hand.marks()

    def room(self):
        return self.frame_store.free() + self.slot_store.free()
