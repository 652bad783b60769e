"""leafframe.near: point [16], and [2] for it."""

import random
import unittest

from leafframe.errors import NoShape
from leafframe.near import Near
from tests.helper import FAR_ABOVE, FAR_BELOW, Case

SIZES = (0, 1, 2, 4, 8, 16, 32, 64)
BIG = 1 << 70


def near_with(many, *rows):
    near = Near(many)
    for row in rows:
        near.note(*row)
    return near


class Making(Case):
    def test_sizes(self):
        for many in SIZES:
            self.assertEqual(Near(many).rows(), [])
            self.assertIsNone(Near(many).found(0, 0))

    def test_other_numbers_of_places(self):
        others = [many for many in range(65) if many not in SIZES]
        self.assertEqual(len(others), 57)
        for many in others + [-1, -2, -64, 65, 96, 128, 256] + list(FAR_ABOVE + FAR_BELOW):
            self.refused(NoShape, Near, many)

    def test_two_know_nothing_of_each_other(self):
        one, other = Near(4), Near(4)
        one.note(1, 2, 3, 1)
        self.assertEqual(other.rows(), [])
        self.assertIsNone(other.found(1, 2))


class Noting(Case):
    def test_what_is_noted_is_found(self):
        for many in SIZES[1:]:
            near = near_with(many, (3, 5, 7, 2))
            told = near.found(3, 5)
            self.assertIs(type(told), tuple)
            self.assertEqual(told, (7, 2))
            self.assertEqual(near.rows(), [(3, 5, 7, 2)])

    def test_the_same_task_and_page_again(self):
        near = near_with(8, (3, 5, 7, 2), (3, 5, 6, 1))
        self.assertEqual(near.found(3, 5), (6, 1))
        self.assertEqual(near.rows(), [(3, 5, 6, 1)])

    def test_replaced_by_one_of_the_same_place_alone(self):
        for many in SIZES[1:]:
            for place in range(many):
                near = near_with(many, *[(0, page, page, 1) for page in range(many)])
                self.assertEqual(near.rows(), [(0, page, page, 1) for page in range(many)])
                near.note(many, place, 99, 3)
                self.assertIsNone(near.found(0, place))
                self.assertEqual(near.found(many, place), (99, 3))
                self.assertEqual(near.rows(), [(many, page, 99, 3) if page == place else (0, page, page, 1)
                                               for page in range(many)])

    def test_not_found_by_another_task_or_page_of_the_same_place(self):
        for many in SIZES[1:]:
            near = near_with(many, (5, 9, 1, 3))
            for task, page in ((5, 9 + many), (5 + many, 9), (9, 5), (5 + many, 9 + many), (4, 8), (5, 9 + 64),
                               (5, 9 + BIG), (5 + BIG, 9), (5 + BIG, 9 + BIG), (5, 8), (4, 9)):
                self.assertIsNone(near.found(task, page), (many, task, page))
            self.assertEqual(near.rows(), [(5, 9, 1, 3)])

    def test_places_are_the_lowest_bits_of_page_and_task(self):
        for many in SIZES[1:]:
            for task in (0, 1, 2, 5, 63, 64, 100):
                for page in (0, 1, 3, 31, 32, 63, 64, 127):
                    self.shares_a_place(many, task, page, (page ^ task) % many)

    def shares_a_place(self, many, task, page, place):
        """The row pushes out just the one that lies at its place."""
        near = near_with(many, *[(1000 * 64, number, 0, 0) for number in range(many)])
        near.note(task, page, 1, 1)
        self.assertEqual(near.rows(), [(task, page, 1, 1) if number == place else (64000, number, 0, 0)
                                       for number in range(many)])

    def test_tasks_and_pages_of_many_bits(self):
        for many in SIZES[1:]:
            near = Near(many)
            for task, page in ((BIG, 1), (1, BIG), (BIG + 5, BIG + 6), (1 << 20000, (1 << 20000) + 1)):
                near.note(task, page, 4, 3)
                self.assertEqual(near.found(task, page), (4, 3))
                self.assertIn((task, page, 4, 3), near.rows())
                self.assertIsNone(near.found(page, task))

    def test_frame_and_rights_are_kept_as_told(self):
        for frame, rights in ((0, 0), (63, 3), (64, 4), (BIG, -1), (-5, BIG)):
            near = near_with(2, (1, 2, frame, rights))
            self.assertEqual(near.found(1, 2), (frame, rights))
            self.assertEqual(near.rows(), [(1, 2, frame, rights)])

    def test_with_0_places_nothing_is_ever_known(self):
        near = Near(0)
        for task in range(3):
            for page in range(70):
                near.note(task, page, 1, 3)
                self.assertIsNone(near.found(task, page))
        self.assertEqual(near.rows(), [])
        near.forget(0, 0)
        near.forget_task(0)
        near.forget_frame(1)
        self.assertEqual(near.rows(), [])

    def test_rows_in_the_order_of_their_places(self):
        near = near_with(8, (0, 6, 1, 1), (3, 3, 2, 2), (1, 6, 3, 3), (2, 0, 4, 0))
        self.assertEqual(near.rows(), [(3, 3, 2, 2), (2, 0, 4, 0), (0, 6, 1, 1), (1, 6, 3, 3)])


class Forgetting(Case):
    def setUp(self):
        self.lines = [(0, 0, 5, 1), (1, 0, 6, 2), (0, 2, 6, 3), (1, 2, 5, 0), (0, 4, 7, 1), (4, 1, 5, 1)]
        self.near = near_with(8, *self.lines)
        self.assertEqual(self.near.rows(), self.lines)

    def left(self, kept):
        self.assertEqual(self.near.rows(), kept)
        for line in self.lines:
            self.assertEqual(self.near.found(*line[:2]), line[2:] if line in kept else None)

    def test_a_task_and_page(self):
        for line in list(self.lines):
            self.setUp()
            self.near.forget(*line[:2])
            self.left([other for other in self.lines if other != line])

    def test_a_task_and_page_that_another_row_shares_its_place_with(self):
        for task, page in ((8, 0), (0, 8), (3, 2), (2, 0), (1, 10), (9, 2), (0, 7), (7, 0), (4, 0), (BIG, BIG)):
            self.near.forget(task, page)
        self.left(self.lines)

    def test_a_task(self):
        for task in (0, 1, 4, 2, 8, 5, BIG):
            self.setUp()
            self.near.forget_task(task)
            self.left([line for line in self.lines if line[0] != task])

    def test_a_frame(self):
        for frame in (5, 6, 7, 0, 1, 2, BIG):
            self.setUp()
            self.near.forget_frame(frame)
            self.left([line for line in self.lines if line[2] != frame])

    def test_what_is_forgotten_may_be_noted_again(self):
        self.near.forget(0, 2)
        self.near.note(0, 2, 9, 1)
        self.assertEqual(self.near.found(0, 2), (9, 1))
        self.assertEqual(len(self.near.rows()), 6)

    def test_what_was_replaced_does_not_come_back(self):
        near = near_with(1, (0, 0, 1, 1), (0, 1, 2, 2))
        near.forget(0, 0)
        self.assertEqual(near.rows(), [(0, 1, 2, 2)])
        near.forget(0, 1)
        self.assertEqual(near.rows(), [])
        self.assertIsNone(near.found(0, 0))


class Telling(Case):
    def test_told_rows_are_the_askers_own(self):
        near = near_with(4, (0, 1, 2, 3))
        told = near.rows()
        self.assertIs(type(told), list)
        self.assertIs(type(told[0]), tuple)
        told.append((1, 1, 1, 1))
        told[0] = None
        self.assertEqual(near.rows(), [(0, 1, 2, 3)])
        kept = near.rows()
        near.note(0, 2, 3, 3)
        near.forget_task(0)
        self.assertEqual(kept, [(0, 1, 2, 3)])

    def test_to_ask_changes_nothing(self):
        near = near_with(2, (0, 1, 2, 3))
        for task in range(4):
            for page in range(4):
                near.found(task, page)
        self.assertEqual(near.rows(), [(0, 1, 2, 3)])


class LongRow(Case):
    def test_as_a_plain_list_would_answer(self):
        for many in SIZES:
            self.compare(random.Random(many), Near(many), [None] * many)

    def compare(self, chance, near, plain):
        for turn in range(400):
            task, page, frame, rights = (chance.randrange(bound) for bound in (5, 100, 4, 4))
            deed = chance.choice(("note", "note", "note", "forget", "forget_task", "forget_frame"))
            if deed == "note":
                near.note(task, page, frame, rights)
                if plain:
                    plain[(page ^ task) % len(plain)] = (task, page, frame, rights)
            elif deed == "forget":
                near.forget(task, page)
                plain = [line if line and line[:2] != (task, page) else None for line in plain]
            elif deed == "forget_task" and turn % 5 == 0:
                near.forget_task(task)
                plain = [line if line and line[0] != task else None for line in plain]
            elif deed == "forget_frame" and turn % 5 == 0:
                near.forget_frame(frame)
                plain = [line if line and line[2] != frame else None for line in plain]
            self.assertEqual(near.rows(), [line for line in plain if line])
            task, page = chance.randrange(5), chance.randrange(100)
            known = [line[2:] for line in plain if line and line[:2] == (task, page)]
            self.assertEqual(near.found(task, page), known[0] if known else None)


if __name__ == "__main__":
    unittest.main()
