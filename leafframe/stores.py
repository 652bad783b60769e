"""Rooms for rows of words, with a count for each room."""

from leafframe.counts import Counts
from leafframe.errors import NoAddress, NoShape, NoWord

MOST_WORDS = 64


def is_word(thing):
    # To Python the truths are ints; here they are no numbers.
    return isinstance(thing, int) and not isinstance(thing, bool) and 0 <= thing < 2 ** 64


def check_word(thing):
    if not is_word(thing):
        raise NoWord("a word is a whole number from 0 to below 2 ** 64")


class Store:
    def __init__(self, many, size):
        if not 1 <= size <= MOST_WORDS:
            raise NoShape("a room is for 1 to 64 words")
        self.tally = Counts(many)
        self.length = size
        self.contents = {}

    def check_words(self, words):
        if len(words) != self.length:
            raise NoWord("a row has as many words as a room")
        for word in words:
            check_word(word)

    def check_place(self, number, place):
        self.tally.check_taken(number)
        if not 0 <= place < self.length:
            raise NoAddress("a place outside of the room")

    def made(self, words, count=1):
        self.check_words(words)
        number = self.tally.taken(count)
        self.contents[number] = list(words)
        return number

    def words(self, number):
        self.tally.check_taken(number)
        return list(self.contents[number])

    def word(self, number, place):
        self.check_place(number, place)
        return self.contents[number][place]

    def put(self, number, place, word):
        self.check_place(number, place)
        check_word(word)
        self.contents[number][place] = word

    def count(self, number):
        self.tally.check_taken(number)
        return self.tally.of(number)

    def more(self, number):
        return self.tally.more(number)

    def less(self, number):
        count = self.tally.less(number)
        if count == 0:
            self.contents.pop(number)
        return count

    def gone(self, number):
        count = self.tally.freed(number)
        return (self.contents.pop(number), count)

    def counts(self):
        return self.tally.told()

    def free(self):
        return self.tally.free()
