"""leafframe.errors: the classes of the interface, and which stands under which."""

import unittest

from leafframe import errors
from tests.helper import Case

PLAIN = (
    "NoShape", "NoAddress", "NoStretch", "NoNumber", "Full", "NoWord", "NoRights", "NoTask", "NoName", "NoShare",
    "Unlike", "NoText", "NoRow",
)
MADE_OF = {"Taken": (7,), "Fault": (1, 2, "read"), "Unmapped": (1, 2, "read"), "Barred": (1, 2, "read")}
ALL = PLAIN + tuple(MADE_OF)
ABOVE = {"Unmapped": ("Fault",), "Barred": ("Fault",)}


def made(name):
    return getattr(errors, name)(*MADE_OF.get(name, ("some words",)))


class ErrorClasses(Case):
    def test_leaf_error_is_a_value_error_and_none_of_the_others(self):
        self.assertTrue(issubclass(errors.LeafError, ValueError))
        for name in ALL:
            self.assertFalse(issubclass(errors.LeafError, getattr(errors, name)), name)

    def test_each_is_a_leaf_error_and_a_value_error(self):
        for name in ALL:
            self.assertIsInstance(made(name), errors.LeafError, name)
            self.assertIsInstance(made(name), ValueError, name)

    def test_each_is_none_of_the_others_but_those_above_it(self):
        for name in ALL:
            for other in ALL:
                under = name == other or other in ABOVE.get(name, ())
                self.assertEqual(isinstance(made(name), getattr(errors, other)), under, (name, other))

    def test_each_is_raised_and_taken_by_its_name(self):
        for name in ALL:
            with self.assertRaises(getattr(errors, name)):
                raise made(name)

    def test_plain_ones_are_made_with_or_without_words(self):
        for name in PLAIN + ("LeafError",):
            self.assertEqual(getattr(errors, name)().args, ())
            self.assertEqual(getattr(errors, name)("some words").args, ("some words",))


class Fields(Case):
    def test_taken_tells_its_page(self):
        self.assertEqual(errors.Taken(0).page, 0)
        self.assertEqual(errors.Taken(31).page, 31)

    def test_faults_tell_task_address_and_deed(self):
        for kind in (errors.Fault, errors.Unmapped, errors.Barred):
            for deed in ("read", "write", "unmap", "rights", "look"):
                fault = kind(3, 17, deed)
                self.assertEqual((fault.task, fault.address, fault.deed), (3, 17, deed))

    def test_two_faults_know_nothing_of_each_other(self):
        one = errors.Unmapped(1, 2, "read")
        errors.Unmapped(3, 4, "write")
        self.assertEqual((one.task, one.address, one.deed), (1, 2, "read"))


if __name__ == "__main__":
    unittest.main()
