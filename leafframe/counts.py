"""Counts for numbers from 0 on; a number of count 0 is free."""

from leafframe.errors import Full, NoNumber, NoShape

MOST_NUMBERS = 64


class Counts:
    def __init__(self, many):
        if not 0 <= many <= MOST_NUMBERS:
            raise NoShape("counts are kept for 0 to 64 numbers")
        self.kept = [0] * many

    def taken(self, count=1):
        if self.free() == 0:
            raise Full("no number is free")
        number = self.kept.index(0)
        self.kept[number] = count
        return number

    def more(self, number):
        self.check_taken(number)
        self.kept[number] = self.kept[number] + 1
        return self.kept[number]

    def less(self, number):
        self.check_taken(number)
        self.kept[number] = self.kept[number] - 1
        return self.kept[number]

    def freed(self, number):
        self.check_taken(number)
        count = self.kept[number]
        self.kept[number] = 0
        return count

    def of(self, number):
        # Python would take a number below 0 from the list's end.
        if not 0 <= number < len(self.kept):
            raise NoNumber("none of the numbers that are counted")
        return self.kept[number]

    def check_taken(self, number):
        if self.of(number) == 0:
            raise NoNumber("the number is free")

    def told(self):
        return list(self.kept)

    def free(self):
        return self.kept.count(0)
