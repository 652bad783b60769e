"""Addresses cut by bits: levels of tables from the top down, then the place in the page."""

# The words of the refusals name no number: Python itself refuses to write out one of many thousand digits.

from leafframe.errors import NoAddress, NoShape, NoStretch

MOST_WIDTH = 24
MOST_LOW = 6
MOST_PAGES = 64


def check_shape(widths, low):
    if len(widths) not in (2, 3):
        raise NoShape("a shape has two or three widths")
    for width in widths:
        if not 1 <= width <= MOST_WIDTH:
            raise NoShape("a width is from 1 to 24")
    if not 0 <= low <= MOST_LOW:
        raise NoShape("a low width is from 0 to 6")


def check_inside(number, bound):
    if not 0 <= number < bound:
        raise NoAddress("outside of the shape")


class Shape:
    def __init__(self, widths, low):
        check_shape(widths, low)
        self.widths = tuple(widths)
        self.low = low

    def pages(self):
        return 1 << sum(self.widths)

    def size(self):
        return 1 << self.low

    def part_widths(self):
        return self.widths + (self.low,)

    def check_address(self, address):
        check_inside(address, self.pages() * self.size())

    def cut(self, address):
        self.check_address(address)
        rest = address
        parts = []
        for width in reversed(self.part_widths()):
            parts.append(rest & ((1 << width) - 1))
            rest = rest >> width
        return tuple(reversed(parts))

    def joined(self, parts):
        widths = self.part_widths()
        if len(parts) != len(widths):
            raise NoAddress("an address has one part for each level, and the place")
        address = 0
        for width, part in zip(widths, parts):
            check_inside(part, 1 << width)
            address = (address << width) | part
        return address

    def page_of(self, address):
        self.check_address(address)
        return address >> self.low

    def place_of(self, address):
        self.check_address(address)
        return address & (self.size() - 1)

    def address_of(self, page, place):
        check_inside(page, self.pages())
        check_inside(place, self.size())
        return (page << self.low) | place

    def stretch(self, first, many):
        if not 1 <= many <= MOST_PAGES:
            raise NoStretch("a stretch has from 1 to 64 pages")
        if not 0 <= first <= self.pages() - many:
            raise NoStretch("a stretch has pages of the shape alone")
        return list(range(first, first + many))
