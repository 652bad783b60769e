"""What the tests of all modules use."""

import unittest

# Far beyond every bound; the last ones have more digits than Python writes out.
FAR_ABOVE = (1 << 64, 10 ** 30, 1 << 20000)
FAR_BELOW = tuple(-number for number in FAR_ABOVE)


class Case(unittest.TestCase):
    def refused(self, kind, call, *handed):
        """The call is refused with this very class, not with one above or below it."""
        with self.assertRaises(kind) as seen:
            call(*handed)
        self.assertIs(type(seen.exception), kind)
        return seen.exception
