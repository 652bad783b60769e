"""leafframe.stores: point [11], and [2] for it."""

import random
import unittest

from leafframe.errors import Full, NoAddress, NoNumber, NoShape, NoWord
from leafframe.stores import Store, is_word
from tests.helper import FAR_ABOVE, FAR_BELOW, NO_WORDS, TOP_WORD, Case

SIZES = (1, 2, 3, 63, 64)


class StoreCase(Case):
    def holds(self, store, rooms):
        """All that the store tells is this list: for each room (words, count), None for a free one."""
        self.assertEqual(store.counts(), [room[1] if room else 0 for room in rooms])
        self.assertEqual(store.free(), rooms.count(None))
        for number, room in enumerate(rooms):
            if room is None:
                self.refused(NoNumber, store.words, number)
                self.refused(NoNumber, store.word, number, 0)
            else:
                self.assertEqual(store.words(number), room[0])
                self.assertEqual([store.word(number, place) for place in range(len(room[0]))], room[0])
        self.refused(NoNumber, store.words, len(rooms))

    def refused_in(self, store, rooms, kind, call, *handed):
        self.refused(kind, call, *handed)
        self.holds(store, rooms)


def stored(*rooms):
    """A store of rooms of two words, each with (words, count); None leaves it free."""
    store = Store(len(rooms), 2)
    for room in rooms:
        store.made(*(room or ([0, 0], 1)))
    for number, room in enumerate(rooms):
        if room is None:
            store.gone(number)
    return store


class Words(Case):
    def test_whole_numbers_around_the_bounds(self):
        for thing in (0, 1, 2, 63, 64, 255, 2 ** 32, 2 ** 63, TOP_WORD - 1, TOP_WORD):
            self.assertIs(is_word(thing), True, thing)

    def test_what_is_no_word(self):
        for thing in NO_WORDS:
            self.assertIs(is_word(thing), False)


class Making(StoreCase):
    def test_each_room_is_free_at_first(self):
        for many in range(65):
            self.holds(Store(many, 1), [None] * many)
        for size in range(1, 65):
            self.holds(Store(2, size), [None, None])

    def test_too_few_or_too_many_rooms(self):
        for many in (-1, -2, -64, 65, 66, 1000) + FAR_ABOVE + FAR_BELOW:
            for size in (1, 64):
                self.refused(NoShape, Store, many, size)

    def test_too_few_or_too_many_words(self):
        for size in (0, -1, -64, 65, 66, 1000) + FAR_ABOVE + FAR_BELOW:
            for many in (0, 1, 64, -1, 65):
                self.refused(NoShape, Store, many, size)

    def test_the_least_free_room_until_full(self):
        for many in (0, 1, 2, 64):
            for size in SIZES:
                store, rooms = Store(many, size), [None] * many
                for number in range(many):
                    words = [number * 100 + place for place in range(size)]
                    self.assertEqual(store.made(words), number)
                    rooms[number] = (words, 1)
                self.holds(store, rooms)
                self.refused_in(store, rooms, Full, store.made, [0] * size)
                self.refused_in(store, rooms, Full, store.made, [0] * size, 7)

    def test_a_count_is_told(self):
        store = Store(4, 1)
        self.assertEqual(store.made([5], 3), 0)
        self.assertEqual(store.made([6]), 1)
        self.assertEqual(store.made([7], count=1), 2)
        self.assertEqual(store.made([8], count=1000000), 3)
        self.holds(store, [([5], 3), ([6], 1), ([7], 1), ([8], 1000000)])

    def test_the_least_of_several_free_rooms(self):
        store = stored(([1, 2], 1), None, ([3, 4], 2), None)
        self.assertEqual(store.made([5, 6], 4), 1)
        self.holds(store, [([1, 2], 1), ([5, 6], 4), ([3, 4], 2), None])
        store.less(0)
        self.assertEqual(store.made([7, 8]), 0)
        self.assertEqual(store.made([9, 9]), 3)
        self.holds(store, [([7, 8], 1), ([5, 6], 4), ([3, 4], 2), ([9, 9], 1)])

    def test_least_and_greatest_words(self):
        store = Store(1, 3)
        store.made([0, TOP_WORD, 1])
        self.holds(store, [([0, TOP_WORD, 1], 1)])

    def test_two_stores_know_nothing_of_each_other(self):
        one, other = Store(1, 2), Store(1, 2)
        one.made([1, 2], 3)
        self.holds(other, [None])
        other.made([4, 5])
        other.put(0, 1, 6)
        self.holds(one, [([1, 2], 3)])
        self.holds(other, [([4, 6], 1)])


class NoWords(StoreCase):
    def test_what_is_no_word_at_each_place(self):
        for size in (1, 2, 5):
            store = Store(2, size)
            store.made([3] * size)
            for place in range(size):
                for thing in NO_WORDS:
                    words = [0] * size
                    words[place] = thing
                    self.refused(NoWord, store.made, words)
                    self.refused(NoWord, store.made, words, 4)
            self.holds(store, [([3] * size, 1), None])

    def test_too_few_or_too_many(self):
        for size in SIZES:
            store = Store(1, size)
            for many in (0, size - 1, size + 1, 2 * size, 128):
                self.refused_in(store, [None], NoWord, store.made, [0] * many)

    def test_goes_ahead_of_full(self):
        for store, rooms in ((Store(0, 2), []), (stored(([1, 2], 1)), [([1, 2], 1)])):
            for words in ([], [1], [1, 2, 3], [1, -1], [2 ** 64, 0], [True, 1], [None, 1]):
                self.refused_in(store, rooms, NoWord, store.made, words)
            self.refused_in(store, rooms, Full, store.made, [1, 2])


class Putting(StoreCase):
    def test_a_word_at_each_place(self):
        for size in SIZES:
            store, words = Store(2, size), list(range(size))
            store.made([7] * size)
            store.made(words, 2)
            for place in range(size):
                store.put(1, place, TOP_WORD - place)
                words[place] = TOP_WORD - place
                self.holds(store, [([7] * size, 1), (words, 2)])

    def test_the_word_that_lies_there_and_0(self):
        store = stored(([1, 2], 1))
        store.put(0, 0, 1)
        self.holds(store, [([1, 2], 1)])
        store.put(0, 1, 0)
        self.holds(store, [([1, 0], 1)])

    def test_what_is_no_word(self):
        store, rooms = stored(([1, 2], 1)), [([1, 2], 1)]
        for thing in NO_WORDS:
            for place in (0, 1):
                self.refused_in(store, rooms, NoWord, store.put, 0, place, thing)

    def test_a_place_outside(self):
        for size in SIZES:
            store, rooms = Store(1, size), [([4] * size, 2)]
            store.made(*rooms[0])
            for place in (-1, -size, -size - 1, size, size + 1, 64, 65) + FAR_ABOVE + FAR_BELOW:
                if 0 <= place < size:
                    continue
                self.refused_in(store, rooms, NoAddress, store.word, 0, place)
                self.refused_in(store, rooms, NoAddress, store.put, 0, place, 1)
                self.refused_in(store, rooms, NoAddress, store.put, 0, place, -1)

    def test_a_free_room_or_none_ahead_of_the_others(self):
        rooms = [([1, 2], 1), None, ([3, 4], 1), None]
        store = stored(*rooms)
        for number in (1, 3, 4, 5, -1, -2, -4, 64) + FAR_ABOVE + FAR_BELOW:
            self.refused_in(store, rooms, NoNumber, store.words, number)
            for place in (0, 1, 2, -1):
                self.refused_in(store, rooms, NoNumber, store.word, number, place)
                self.refused_in(store, rooms, NoNumber, store.put, number, place, 1)
                self.refused_in(store, rooms, NoNumber, store.put, number, place, None)


class Counting(StoreCase):
    def test_more_and_less_down_to_a_free_room(self):
        store = stored(([1, 2], 1), ([3, 4], 1))
        self.assertEqual(store.more(1), 2)
        self.assertEqual(store.more(1), 3)
        self.holds(store, [([1, 2], 1), ([3, 4], 3)])
        self.assertEqual([store.less(1), store.less(1)], [2, 1])
        self.holds(store, [([1, 2], 1), ([3, 4], 1)])
        self.assertEqual(store.less(1), 0)
        self.holds(store, [([1, 2], 1), None])
        self.assertEqual(store.less(0), 0)
        self.holds(store, [None, None])

    def test_gone(self):
        store = stored(([1, 2], 5), ([3, 4], 1), ([5, 6], 2))
        told = store.gone(0)
        self.assertIs(type(told), tuple)
        self.assertIs(type(told[0]), list)
        self.assertEqual(told, ([1, 2], 5))
        self.assertEqual(store.gone(1), ([3, 4], 1))
        self.holds(store, [None, None, ([5, 6], 2)])
        self.assertEqual(store.made([7, 7]), 0)
        self.holds(store, [([7, 7], 1), None, ([5, 6], 2)])

    def test_a_room_that_was_freed_knows_nothing_of_what_lay_there(self):
        for free in ("less", "gone"):
            store = stored(([1, 2], 1))
            getattr(store, free)(0)
            store.made([0, 3], 2)
            self.holds(store, [([0, 3], 2)])

    def test_a_free_room_or_none(self):
        rooms = [None, ([1, 2], 1), None]
        store = stored(*rooms)
        for number in (0, 2, 3, 4, -1, -2, -3, 64) + FAR_ABOVE + FAR_BELOW:
            for call in (store.more, store.less, store.gone):
                self.refused_in(store, rooms, NoNumber, call, number)
        store.less(1)
        for call in (store.more, store.less, store.gone):
            self.refused_in(store, [None, None, None], NoNumber, call, 1)


class Lists(StoreCase):
    def test_words_handed_in_are_copied_and_not_changed(self):
        store, words = Store(2, 2), [1, 2]
        store.made(words)
        words[0] = 9
        words.append(3)
        self.holds(store, [([1, 2], 1), None])
        other = [5, 6]
        store.made(other)
        store.put(1, 0, 7)
        store.less(1)
        self.assertEqual(other, [5, 6])
        wrong = [1, 2, None]
        self.refused(NoWord, store.made, wrong)
        self.assertEqual(wrong, [1, 2, None])

    def test_told_lists_are_the_askers_own(self):
        store = stored(([1, 2], 3), None)
        for told in (store.words(0), store.counts()):
            told[0] = 9
            told.append(8)
        self.holds(store, [([1, 2], 3), None])
        words, counts = store.words(0), store.counts()
        store.put(0, 0, 5)
        store.more(0)
        store.made([6, 6])
        self.assertEqual((words, counts), ([1, 2], [3, 0]))
        taken_out = store.gone(1)[0]
        store.made([7, 7])
        self.assertEqual(taken_out, [6, 6])
        taken_out.append(1)
        self.holds(store, [([5, 2], 4), ([7, 7], 1)])


class LongRow(StoreCase):
    def test_as_a_plain_list_would_answer(self):
        chance = random.Random(11)
        store, rooms = Store(4, 2), [None] * 4
        for turn in range(1500):
            getattr(self, chance.choice(("make", "put", "more", "less", "gone")))(chance, store, rooms)
            self.holds(store, rooms)

    def make(self, chance, store, rooms):
        words, count = [chance.randrange(9), chance.randrange(-1, 9)], chance.randrange(1, 4)
        if words[1] < 0:
            self.refused(NoWord, store.made, words, count)
        elif None not in rooms:
            self.refused(Full, store.made, words, count)
        else:
            number = rooms.index(None)
            rooms[number] = (list(words), count)
            self.assertEqual(store.made(words, count), number)

    def put(self, chance, store, rooms):
        number, place, word = chance.randrange(-1, 5), chance.randrange(-1, 3), chance.randrange(-1, 9)
        if not 0 <= number < 4 or rooms[number] is None:
            self.refused(NoNumber, store.put, number, place, word)
        elif not 0 <= place < 2:
            self.refused(NoAddress, store.put, number, place, word)
        elif word < 0:
            self.refused(NoWord, store.put, number, place, word)
        else:
            rooms[number][0][place] = word
            store.put(number, place, word)

    def counted(self, chance, call, rooms, by):
        number = chance.randrange(-1, 5)
        if not 0 <= number < 4 or rooms[number] is None:
            self.refused(NoNumber, call, number)
            return
        words, count = rooms[number]
        rooms[number] = (words, count + by) if count + by else None
        self.assertEqual(call(number), count + by)

    def more(self, chance, store, rooms):
        self.counted(chance, store.more, rooms, 1)

    def less(self, chance, store, rooms):
        self.counted(chance, store.less, rooms, -1)

    def gone(self, chance, store, rooms):
        number = chance.randrange(-1, 5)
        if not 0 <= number < 4 or rooms[number] is None:
            self.refused(NoNumber, store.gone, number)
            return
        self.assertEqual(store.gone(number), rooms[number])
        rooms[number] = None


if __name__ == "__main__":
    unittest.main()
