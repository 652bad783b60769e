"""leafframe.hands: point [17], and [2] for it."""

import random
import unittest

from leafframe.errors import NoShape
from leafframe.hands import Hand
from tests.helper import FAR_ABOVE, FAR_BELOW, Case


class HandCase(Case):
    def holds(self, hand, at, marks):
        self.assertEqual(hand.at(), at)
        told = hand.marks()
        self.assertIs(type(told), list)
        self.assertEqual(told, marks)
        for mark in told:
            self.assertIs(type(mark), bool)


def hand_with(marks, at=0):
    """A hand with these marks, that stands there."""
    hand = Hand(len(marks))
    for step in range(at):
        hand.chosen()
    for frame, mark in enumerate(marks):
        if mark:
            hand.mark(frame)
    return hand


class Making(HandCase):
    def test_at_first(self):
        for many in range(1, 65):
            self.holds(Hand(many), 0, [False] * many)

    def test_too_few_or_too_many_frames(self):
        for many in (0, -1, -64, 65, 66, 1000) + FAR_ABOVE + FAR_BELOW:
            self.refused(NoShape, Hand, many)

    def test_two_know_nothing_of_each_other(self):
        one, other = Hand(2), Hand(2)
        one.mark(0)
        one.chosen()
        self.holds(other, 0, [False, False])


class Marking(HandCase):
    def test_each_frame(self):
        for many in (1, 2, 64):
            for frame in range(many):
                hand = Hand(many)
                hand.mark(frame)
                self.holds(hand, 0, [number == frame for number in range(many)])
                hand.mark(frame)
                self.holds(hand, 0, [number == frame for number in range(many)])
                hand.unmark(frame)
                self.holds(hand, 0, [False] * many)
                hand.unmark(frame)
                self.holds(hand, 0, [False] * many)

    def test_cleared_beside_others(self):
        hand = hand_with([True, True, True], 1)
        hand.unmark(1)
        self.holds(hand, 1, [True, False, True])


class Choosing(HandCase):
    def test_with_no_mark_round_and_round(self):
        for many in (1, 2, 64):
            hand = Hand(many)
            for turn in range(3 * many):
                self.assertEqual(hand.chosen(), turn % many)
                self.holds(hand, (turn + 1) % many, [False] * many)

    def test_with_all_marks_the_frame_where_it_began(self):
        for many in (1, 2, 3, 64):
            for at in range(many):
                hand = hand_with([True] * many, at)
                self.assertEqual(hand.chosen(), at)
                self.holds(hand, (at + 1) % many, [False] * many)

    def test_with_some(self):
        hand = hand_with([True, True, False, True])
        self.assertEqual(hand.chosen(), 2)
        self.holds(hand, 3, [False, False, False, True])
        self.assertEqual(hand.chosen(), 0)
        self.holds(hand, 1, [False] * 4)

    def test_marks_behind_the_chosen_one_stay(self):
        hand = hand_with([True, False, True, False], 1)
        self.assertEqual(hand.chosen(), 1)
        self.holds(hand, 2, [True, False, True, False])
        self.assertEqual(hand.chosen(), 3)
        self.holds(hand, 0, [True, False, False, False])

    def test_one_frame(self):
        hand = Hand(1)
        for mark in (False, True, True, False):
            if mark:
                hand.mark(0)
            self.assertEqual(hand.chosen(), 0)
            self.holds(hand, 0, [False])

    def test_round_behind_the_last_one(self):
        hand = hand_with([False, True, True], 2)
        self.assertEqual(hand.chosen(), 0)
        self.holds(hand, 1, [False, True, False])


class Telling(HandCase):
    def test_told_marks_are_the_askers_own(self):
        hand = hand_with([True, False])
        told = hand.marks()
        told[1] = True
        told.append(True)
        self.holds(hand, 0, [True, False])
        kept = hand.marks()
        hand.mark(1)
        hand.unmark(0)
        self.assertEqual(kept, [True, False])


class LongRow(HandCase):
    def test_as_the_words_say(self):
        chance = random.Random(17)
        for many in (1, 2, 3, 5, 64):
            hand, marks, at = Hand(many), [False] * many, 0
            for turn in range(400):
                frame = chance.randrange(many)
                deed = chance.randrange(4)
                if deed < 2:
                    hand.mark(frame)
                    marks[frame] = True
                elif deed == 2:
                    hand.unmark(frame)
                    marks[frame] = False
                else:
                    order = [(at + step) % many for step in range(many)]
                    passed = order[:[marks[one] for one in order].index(False)] if False in marks else order
                    choice = (at + len(passed)) % many
                    for one in passed:
                        marks[one] = False
                    at = (choice + 1) % many
                    self.assertEqual(hand.chosen(), choice)
                self.holds(hand, at, marks)


if __name__ == "__main__":
    unittest.main()
