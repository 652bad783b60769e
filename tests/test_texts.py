"""leafframe.texts: point [28]."""

import unittest

from leafframe.errors import NoText
from leafframe.texts import read_number, rights_of, shown_number, shown_rights
from tests.helper import Case

NO_NUMBERS = (
    "", " ", "00", "01", "0f", "000", "0" * 20, "0" + "1" * 19, "A", "F", "1F", "aB", "g", "1g", "x", "0x1", "-", "-1",
    "+1", " 1", "1 ", "1 2", "1,2", "1.0", "1_0", "1\n", "\n", "1\t", "rw", "\u0661", "\uff11", "\u00b2", "1" * 21,
    "f" * 21, "1" + "0" * 20, "1" * 5000, "0" * 21, "/", ":", "`", "@", "1%",
)


class Numbers(Case):
    def test_known_ones(self):
        for number, text in ((0, "0"), (1, "1"), (9, "9"), (10, "a"), (15, "f"), (16, "10"), (31, "1f"), (255, "ff"),
                             (256, "100"), (0xdeadbeef, "deadbeef"), (2 ** 64 - 1, "f" * 16), (2 ** 64, "1" + "0" * 16)):
            self.assertEqual(shown_number(number), text)
            self.assertEqual(read_number(text), number)

    def test_each_figure(self):
        for number, text in enumerate("0123456789abcdef"):
            self.assertEqual((shown_number(number), read_number(text)), (text, number))

    def test_of_one_to_twenty_figures(self):
        for many in range(1, 21):
            for text in ("f" * many, "1" + "0" * (many - 1), "fedcba98765432109876"[:many]):
                self.assertEqual(read_number(text), int(text, 16))
                self.assertEqual(shown_number(int(text, 16)), text)

    def test_greater_ones_are_shown_but_not_read(self):
        for many in (21, 22, 50, 5001):
            for text in ("f" * many, "1" + "0" * (many - 1)):
                self.assertEqual(shown_number(int(text, 16)), text)
                self.refused(NoText, read_number, text)

    def test_all_small_ones(self):
        for number in range(5000):
            self.assertEqual(shown_number(number), f"{number:x}")
            self.assertEqual(read_number(f"{number:x}"), number)

    def test_what_is_none(self):
        for text in NO_NUMBERS:
            self.refused(NoText, read_number, text)

    def test_every_other_sign_at_each_place(self):
        for number in range(256):
            if chr(number) not in "0123456789abcdef":
                for text in (chr(number), chr(number) + "1", "1" + chr(number), "1" + chr(number) + "1"):
                    self.refused(NoText, read_number, text)


class Rights(Case):
    def test_each_right(self):
        for rights, text in enumerate(("-", "r", "w", "rw")):
            self.assertEqual(shown_rights(rights), text)
            self.assertEqual(rights_of(text), rights)
            self.assertIs(type(rights_of(text)), int)

    def test_what_is_none(self):
        for text in ("", " ", "R", "W", "RW", "wr", "rr", "ww", "r-", "-r", "--", "r ", " r", "rw ", "r w", "rwx", "x",
                     "0", "1", "3", "\n", "r\n", "-w", "_", "\u2212"):
            self.refused(NoText, rights_of, text)


if __name__ == "__main__":
    unittest.main()
