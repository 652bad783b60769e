"""What the tests of all modules use."""

import unittest

from leafframe.errors import Taken

# Far beyond every bound; the last ones have more digits than Python writes out.
FAR_ABOVE = (1 << 64, 10 ** 30, 1 << 20000)
FAR_BELOW = tuple(-number for number in FAR_ABOVE)

TOP_WORD = 2 ** 64 - 1
# Things of all sorts that are no word.
NO_WORDS = (
    -1, -2, 2 ** 64, 2 ** 64 + 1, 2 ** 65, True, False, None, "", "1", "0x1f", 1.0, 0.5, float("nan"), 1j, b"1",
    (), (1,), [], [1], {}, {1: 1}, {1}, object(), int, len,
) + FAR_ABOVE + FAR_BELOW


def told_rows(rows):
    """Pages and leaves as a list that can be compared: leaves told as rows."""
    return [(page, leaf.row()) for page, leaf in rows]


class Case(unittest.TestCase):
    def refused(self, kind, call, *handed):
        """The call is refused with this very class, not with one above or below it."""
        with self.assertRaises(kind) as seen:
            call(*handed)
        self.assertIs(type(seen.exception), kind)
        return seen.exception

    def faulted(self, kind, fields, call, *handed):
        """The call is refused with this very fault, of this task, address and deed."""
        fault = self.refused(kind, call, *handed)
        self.assertEqual((fault.task, fault.address, fault.deed), fields)

    def taken(self, page, call, *handed):
        """The call is refused with Taken, and this is the page."""
        self.assertEqual(self.refused(Taken, call, *handed).page, page)
