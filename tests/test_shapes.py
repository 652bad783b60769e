"""leafframe.shapes: points [7], [8], [9], and [2] for them."""

import operator
import unittest

from leafframe.errors import NoAddress, NoShape, NoStretch
from leafframe.shapes import Shape
from tests.helper import FAR_ABOVE, FAR_BELOW, Case

# widths, low, how many pages, how many words a page has
SHAPES = (
    ([1, 1], 0, 4, 1),
    ([1, 1], 6, 4, 64),
    ([1, 1, 1], 0, 8, 1),
    ([3, 4], 2, 128, 4),
    ([2, 3, 1], 1, 64, 2),
    ([1, 24], 3, 33554432, 8),
    ([24, 1, 2], 5, 134217728, 32),
    ([24, 24], 0, 281474976710656, 1),
    ([24, 24, 24], 6, 4722366482869645213696, 64),
)
SMALL = (([1, 1], 0), ([1, 2], 1), ([2, 1], 2), ([1, 1, 1], 0), ([1, 2, 1], 1))
DEEDS = (operator.xor, operator.and_, operator.or_)


def all_shapes():
    return [(Shape(widths, low), pages, size) for widths, low, pages, size in SHAPES]


def some_addresses(shape):
    """The ends, and addresses spread between them."""
    bound = shape.pages() * shape.size()
    spread = [(bound * part) // 17 for part in range(17)]
    return sorted(set([0, 1, bound // 2 - 1, bound // 2, bound - 2, bound - 1] + spread))


def outside(bound):
    """Numbers that are none of 0 to below the bound."""
    return (-1, -bound, bound, bound + 1, 2 * bound) + FAR_BELOW + tuple(far + bound for far in FAR_ABOVE)


def digits(number, bases):
    """The number's figures, the highest first, by plain division."""
    told = []
    for base in reversed(bases):
        told.insert(0, number % base)
        number = number // base
    return tuple(told)


def answers(shape):
    """One answer of each method."""
    return [shape.pages(), shape.size(), shape.cut(45), shape.joined(shape.cut(83)), shape.page_of(45),
            shape.place_of(45), shape.address_of(9, 1), shape.stretch(60, 4)]


class Making(Case):
    def test_pages_and_sizes(self):
        for shape, pages, size in all_shapes():
            self.assertEqual(shape.pages(), pages)
            self.assertEqual(shape.size(), size)

    def test_every_width_and_low_width_from_least_to_greatest(self):
        for width in range(1, 25):
            self.assertEqual(Shape([width, 1], 0).pages(), 2 * 2 ** width)
            self.assertEqual(Shape([1, width, 2], 0).pages(), 8 * 2 ** width)
            self.assertEqual(Shape([2, 1, width], 0).pages(), 8 * 2 ** width)
        for low in range(7):
            self.assertEqual(Shape([1, 1], low).size(), 2 ** low)

    def test_too_few_or_too_many_widths(self):
        for widths in ([], [1], [24], [1, 1, 1, 1], [24, 24, 24, 24], [3] * 5, [3] * 100):
            self.refused(NoShape, Shape, widths, 2)

    def test_a_width_beyond_its_bounds_at_each_place(self):
        for levels in (2, 3):
            for place in range(levels):
                for width in (0, 25, -1, 26, -24, 100) + FAR_ABOVE + FAR_BELOW:
                    widths = [3] * levels
                    widths[place] = width
                    self.refused(NoShape, Shape, widths, 2)

    def test_a_low_width_beyond_its_bounds(self):
        for low in (-1, 7, -6, 8, 64) + FAR_ABOVE + FAR_BELOW:
            self.refused(NoShape, Shape, [3, 4], low)
            self.refused(NoShape, Shape, [3, 4, 5], low)

    def test_widths_that_are_changed_behind_the_making_change_no_answer(self):
        widths = [1, 3, 2]
        shape = Shape(widths, 1)
        ahead = answers(shape)
        widths[0] = 24
        self.assertEqual(answers(shape), ahead)
        widths.append(5)
        self.assertEqual(answers(shape), ahead)
        widths.clear()
        self.assertEqual(answers(shape), ahead)
        self.assertEqual(ahead[0], 64)

    def test_widths_are_not_changed(self):
        widths = [3, 4, 5]
        shape = Shape(widths, 2)
        shape.cut(77)
        shape.joined([1, 2, 3, 0])
        shape.stretch(3, 5)
        self.assertEqual(widths, [3, 4, 5])
        wrong = [3, 25]
        self.refused(NoShape, Shape, wrong, 2)
        self.assertEqual(wrong, [3, 25])

    def test_two_shapes_of_one_list_are_of_their_own(self):
        widths = [3, 4]
        one = Shape(widths, 2)
        widths[1] = 6
        other = Shape(widths, 0)
        self.assertEqual((one.pages(), one.size()), (128, 4))
        self.assertEqual((other.pages(), other.size()), (512, 1))


class PagesAndPlaces(Case):
    def test_known_addresses(self):
        shape = Shape([3, 4], 2)
        self.assertEqual((shape.page_of(0), shape.place_of(0)), (0, 0))
        self.assertEqual((shape.page_of(3), shape.place_of(3)), (0, 3))
        self.assertEqual((shape.page_of(4), shape.place_of(4)), (1, 0))
        self.assertEqual((shape.page_of(511), shape.place_of(511)), (127, 3))
        self.assertEqual(shape.address_of(127, 3), 511)
        self.assertEqual(shape.address_of(5, 2), 22)

    def test_page_and_place_make_the_address(self):
        for shape, pages, size in all_shapes():
            for address in some_addresses(shape):
                self.assertEqual(shape.page_of(address), address // size)
                self.assertEqual(shape.place_of(address), address % size)
                self.assertEqual(shape.address_of(address // size, address % size), address)

    def test_the_last_ones(self):
        for shape, pages, size in all_shapes():
            last = pages * size - 1
            self.assertEqual(shape.page_of(last), pages - 1)
            self.assertEqual(shape.place_of(last), size - 1)
            self.assertEqual(shape.address_of(pages - 1, size - 1), last)

    def test_an_address_outside(self):
        for shape, pages, size in all_shapes():
            for address in outside(pages * size):
                self.refused(NoAddress, shape.page_of, address)
                self.refused(NoAddress, shape.place_of, address)
                self.refused(NoAddress, shape.cut, address)

    def test_a_page_or_place_outside(self):
        for shape, pages, size in all_shapes():
            for page in outside(pages):
                self.refused(NoAddress, shape.address_of, page, 0)
                self.refused(NoAddress, shape.address_of, page, size - 1)
            for place in outside(size):
                self.refused(NoAddress, shape.address_of, 0, place)
                self.refused(NoAddress, shape.address_of, pages - 1, place)
            self.refused(NoAddress, shape.address_of, -1, -1)
            self.refused(NoAddress, shape.address_of, pages, size)


class Parts(Case):
    def test_known_parts(self):
        self.assertEqual(Shape([3, 4], 2).cut(0), (0, 0, 0))
        self.assertEqual(Shape([3, 4], 2).cut(0b101_0110_11), (0b101, 0b0110, 0b11))
        self.assertEqual(Shape([3, 4], 2).cut(511), (7, 15, 3))
        self.assertEqual(Shape([2, 3, 1], 1).cut(0b10_011_1_0), (2, 3, 1, 0))
        self.assertEqual(Shape([1, 1], 0).cut(2), (1, 0, 0))

    def test_first_and_last_address(self):
        for widths, low, pages, size in SHAPES:
            shape = Shape(widths, low)
            self.assertEqual(shape.cut(0), (0,) * (len(widths) + 1))
            self.assertEqual(shape.cut(pages * size - 1), tuple(2 ** width - 1 for width in widths + [low]))

    def test_parts_are_the_figures_and_are_joined_to_the_address(self):
        for widths, low, pages, size in SHAPES:
            shape = Shape(widths, low)
            bases = [2 ** width for width in widths + [low]]
            for address in some_addresses(shape):
                parts = shape.cut(address)
                self.assertIs(type(parts), tuple)
                self.assertEqual(parts, digits(address, bases))
                self.assertEqual(shape.joined(parts), address)
                self.assertEqual(shape.joined(list(parts)), address)

    def test_parts_that_are_handed_in_are_not_changed(self):
        shape = Shape([3, 4], 2)
        parts = [1, 2, 3]
        self.assertEqual(shape.joined(parts), 75)
        self.assertEqual(parts, [1, 2, 3])
        wrong = [1, 16, 3]
        self.refused(NoAddress, shape.joined, wrong)
        self.assertEqual(wrong, [1, 16, 3])

    def test_too_few_or_too_many_parts(self):
        for widths, low, pages, size in SHAPES:
            shape = Shape(widths, low)
            for many in (0, 1, len(widths), len(widths) + 2, len(widths) + 3, 50):
                self.refused(NoAddress, shape.joined, (0,) * many)
                self.refused(NoAddress, shape.joined, [0] * many)

    def test_a_part_outside_its_width_at_each_place(self):
        for widths, low, pages, size in SHAPES:
            shape = Shape(widths, low)
            for place, width in enumerate(widths + [low]):
                for part in outside(2 ** width):
                    for others in (0, pages * size - 1):
                        parts = list(shape.cut(others))
                        parts[place] = part
                        self.refused(NoAddress, shape.joined, parts)
                        self.refused(NoAddress, shape.joined, tuple(parts))

    def test_bits_part_by_part_and_order_in_small_shapes(self):
        for widths, low in SMALL:
            shape = Shape(widths, low)
            self.bits_and_order(shape, range(shape.pages() * shape.size()))

    def test_bits_part_by_part_and_order_in_all_shapes(self):
        for shape, pages, size in all_shapes():
            self.bits_and_order(shape, some_addresses(shape))

    def bits_and_order(self, shape, addresses):
        for one in addresses:
            for other in addresses:
                parts, others = shape.cut(one), shape.cut(other)
                self.assertEqual(parts < others, one < other)
                self.assertEqual(parts == others, one == other)
                for deed in DEEDS:
                    self.assertEqual(shape.cut(deed(one, other)), tuple(map(deed, parts, others)))


class Stretches(Case):
    def test_known_stretches(self):
        shape = Shape([3, 4], 2)
        self.assertEqual(shape.stretch(0, 1), [0])
        self.assertEqual(shape.stretch(5, 3), [5, 6, 7])
        self.assertEqual(shape.stretch(0, 64), list(range(64)))
        self.assertEqual(shape.stretch(64, 64), list(range(64, 128)))
        self.assertEqual(shape.stretch(127, 1), [127])
        self.assertIs(type(shape.stretch(5, 3)), list)

    def test_a_stretch_of_a_whole_shape(self):
        self.assertEqual(Shape([1, 1], 0).stretch(0, 4), [0, 1, 2, 3])
        self.assertEqual(Shape([2, 3, 1], 6).stretch(0, 64), list(range(64)))

    def test_every_length_that_ends_with_the_last_page(self):
        for shape, pages, size in all_shapes():
            for many in range(1, min(64, pages) + 1):
                first = pages - many
                self.assertEqual(shape.stretch(first, many), [first + more for more in range(many)])
                self.refused(NoStretch, shape.stretch, first + 1, many)

    def test_too_few_or_too_many_pages(self):
        for shape, pages, size in all_shapes():
            for first in (0, pages - 1):
                for many in (0, -1, -64, 65, 66, 128) + FAR_ABOVE + FAR_BELOW:
                    self.refused(NoStretch, shape.stretch, first, many)

    def test_more_pages_than_the_shape_has(self):
        shape = Shape([1, 1], 3)
        for many in (5, 6, 64):
            self.refused(NoStretch, shape.stretch, 0, many)

    def test_a_first_page_outside(self):
        for shape, pages, size in all_shapes():
            for first in outside(pages):
                for many in (1, 2, 64, 0, 65, -1) + FAR_ABOVE + FAR_BELOW:
                    self.refused(NoStretch, shape.stretch, first, many)

    def test_a_stretch_that_begins_below_0_and_reaches_into_the_shape(self):
        self.refused(NoStretch, Shape([3, 4], 2).stretch, -2, 5)

    def test_far_numbers_that_cancel_each_other(self):
        shape = Shape([3, 4], 2)
        for far in FAR_ABOVE:
            self.refused(NoStretch, shape.stretch, far, 3 - far)
            self.refused(NoStretch, shape.stretch, 3 - far, far)

    def test_a_told_list_is_the_askers_own(self):
        shape = Shape([3, 4], 2)
        told = shape.stretch(5, 3)
        told[0] = 99
        told.append(100)
        self.assertEqual(shape.stretch(5, 3), [5, 6, 7])
        kept = shape.stretch(5, 3)
        shape.stretch(5, 3).clear()
        shape.stretch(6, 3)
        self.assertEqual(kept, [5, 6, 7])


class Refusals(Case):
    def test_what_is_refused_changes_nothing(self):
        shape = Shape([3, 4], 2)
        ahead = answers(shape)
        self.refused(NoAddress, shape.cut, 512)
        self.refused(NoAddress, shape.joined, (1, 2, 4))
        self.refused(NoAddress, shape.page_of, -1)
        self.refused(NoAddress, shape.place_of, 512)
        self.refused(NoAddress, shape.address_of, 128, 0)
        self.refused(NoStretch, shape.stretch, 127, 2)
        self.assertEqual(answers(shape), ahead)


if __name__ == "__main__":
    unittest.main()
