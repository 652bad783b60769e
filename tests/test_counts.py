"""leafframe.counts: point [10], and [2] for it."""

import unittest

from leafframe.counts import Counts
from leafframe.errors import Full, NoNumber, NoShape
from tests.helper import FAR_ABOVE, FAR_BELOW, Case


def counted(*counts):
    """Counts of which each number was taken with the count told; 0 leaves it free again."""
    made = Counts(len(counts))
    for count in counts:
        made.taken(max(count, 1))
    for number, count in enumerate(counts):
        if count == 0:
            made.less(number)
    return made


class CountsCase(Case):
    def holds(self, counts, told):
        """All that the counts tell is this list."""
        self.assertEqual(counts.told(), told)
        self.assertEqual([counts.of(number) for number in range(len(told))], told)
        self.assertEqual(counts.free(), told.count(0))
        self.refused(NoNumber, counts.of, len(told))

    def unchanged_by(self, counts, kind, call, *handed):
        told = counts.told()
        self.refused(kind, call, *handed)
        self.holds(counts, told)


class Making(CountsCase):
    def test_each_number_is_free_at_first(self):
        for many in range(65):
            self.holds(Counts(many), [0] * many)

    def test_too_few_or_too_many_numbers(self):
        for many in (-1, -2, -64, 65, 66, 1000) + FAR_ABOVE + FAR_BELOW:
            self.refused(NoShape, Counts, many)

    def test_two_know_nothing_of_each_other(self):
        one, other = Counts(2), Counts(2)
        one.taken(3)
        self.holds(other, [0, 0])
        other.taken()
        other.more(0)
        other.taken(5)
        other.less(1)
        self.holds(one, [3, 0])
        self.holds(other, [2, 4])
        self.assertEqual(one.taken(), 1)
        self.holds(other, [2, 4])


class Taking(CountsCase):
    def test_the_least_free_number_in_turn_until_full(self):
        for many in (0, 1, 2, 63, 64):
            counts = Counts(many)
            for number in range(many):
                self.assertEqual(counts.taken(), number)
                self.holds(counts, [1] * (number + 1) + [0] * (many - number - 1))
            self.unchanged_by(counts, Full, counts.taken)
            self.unchanged_by(counts, Full, counts.taken, 5)

    def test_a_count_is_told(self):
        counts = Counts(4)
        self.assertEqual(counts.taken(3), 0)
        self.assertEqual(counts.taken(count=1), 1)
        self.assertEqual(counts.taken(1000000), 2)
        self.assertEqual(counts.taken(), 3)
        self.holds(counts, [3, 1, 1000000, 1])

    def test_the_least_of_several_free_ones(self):
        counts = counted(1, 0, 4, 0, 0)
        self.assertEqual(counts.taken(7), 1)
        self.holds(counts, [1, 7, 4, 0, 0])
        counts.less(0)
        self.assertEqual(counts.taken(), 0)
        self.assertEqual(counts.taken(2), 3)
        self.holds(counts, [1, 7, 4, 2, 0])

    def test_down_to_free_and_taken_again(self):
        counts = counted(1, 2, 1)
        self.unchanged_by(counts, Full, counts.taken)
        self.assertEqual(counts.less(1), 1)
        self.unchanged_by(counts, Full, counts.taken)
        self.assertEqual(counts.less(1), 0)
        self.holds(counts, [1, 0, 1])
        self.assertEqual(counts.taken(9), 1)
        self.holds(counts, [1, 9, 1])
        self.unchanged_by(counts, Full, counts.taken)

    def test_the_last_of_64_again(self):
        counts = counted(*[1] * 64)
        counts.less(63)
        self.assertEqual(counts.taken(2), 63)
        self.holds(counts, [1] * 63 + [2])


class MoreAndLess(CountsCase):
    def test_one_more_and_one_fewer(self):
        counts = counted(1, 5, 1)
        self.assertEqual(counts.more(1), 6)
        self.holds(counts, [1, 6, 1])
        self.assertEqual(counts.more(0), 2)
        self.assertEqual(counts.more(0), 3)
        self.holds(counts, [3, 6, 1])
        self.assertEqual(counts.less(1), 5)
        self.assertEqual(counts.less(0), 2)
        self.assertEqual(counts.less(2), 0)
        self.holds(counts, [2, 5, 0])

    def test_counts_of_many(self):
        counts = Counts(1)
        counts.taken()
        for count in range(2, 300):
            self.assertEqual(counts.more(0), count)
        for count in reversed(range(299)):
            self.assertEqual(counts.less(0), count)
        self.holds(counts, [0])

    def test_a_free_number(self):
        counts = counted(1, 0, 2, 0)
        for number in (1, 3):
            self.unchanged_by(counts, NoNumber, counts.more, number)
            self.unchanged_by(counts, NoNumber, counts.less, number)
            self.assertEqual(counts.of(number), 0)
        counts.less(0)
        self.unchanged_by(counts, NoNumber, counts.less, 0)
        self.unchanged_by(counts, NoNumber, counts.more, 0)

    def test_a_number_that_is_none_of_them(self):
        for many in (0, 1, 4, 64):
            counts = counted(*[2] * many)
            for number in (-1, -many, -many - 1, many, many + 1, 65) + FAR_ABOVE + FAR_BELOW:
                if not 0 <= number < many:
                    self.unchanged_by(counts, NoNumber, counts.more, number)
                    self.unchanged_by(counts, NoNumber, counts.less, number)
                    self.unchanged_by(counts, NoNumber, counts.of, number)


class Telling(CountsCase):
    def test_a_told_list_is_the_askers_own(self):
        counts = counted(1, 0, 3)
        told = counts.told()
        self.assertIs(type(told), list)
        told[0] = 8
        told.append(9)
        self.holds(counts, [1, 0, 3])
        self.assertEqual(counts.taken(), 1)
        kept = counts.told()
        counts.more(2)
        counts.less(0)
        self.assertEqual(kept, [1, 1, 3])

    def test_to_ask_changes_nothing(self):
        counts = counted(1, 0, 3)
        self.holds(counts, [1, 0, 3])
        self.holds(counts, [1, 0, 3])


class LongRow(CountsCase):
    def test_as_a_plain_list_would_answer(self):
        counts, plain = Counts(5), [0] * 5
        step = 1
        for turn in range(2000):
            step = (step * 1103515245 + 12345) % 2 ** 31
            deed, number, count = (step >> 8) % 4, (step >> 12) % 7 - 1, (step >> 18) % 3 + 1
            if deed == 0:
                self.take(counts, plain, count)
            else:
                self.count(counts, plain, number, 1 if deed == 1 else -1)
            self.holds(counts, plain)

    def take(self, counts, plain, count):
        if 0 not in plain:
            self.refused(Full, counts.taken, count)
            return
        number = plain.index(0)
        self.assertEqual(counts.taken(count), number)
        plain[number] = count

    def count(self, counts, plain, number, by):
        call = counts.more if by == 1 else counts.less
        if not 0 <= number < 5 or plain[number] == 0:
            self.refused(NoNumber, call, number)
            return
        plain[number] += by
        self.assertEqual(call(number), plain[number])


if __name__ == "__main__":
    unittest.main()
