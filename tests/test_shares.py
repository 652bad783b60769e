"""leafframe.shares: point [20], and [2] for it."""

import random
import string
import unittest

from leafframe.errors import NoName, NoShare, Unlike
from leafframe.leaves import Fresh, Held, Out
from leafframe.shares import Shares
from tests.helper import FAR_ABOVE, FAR_BELOW, NO_NAMES, Case

FRESH = ("fresh", 3)


def rows_of(leaves):
    return [leaf.row() for leaf in leaves]


def shares_with(*told):
    """Shares used so: (name, many) for each."""
    shares = Shares()
    for name, many in told:
        shares.use(name, many)
    return shares


class SharesCase(Case):
    def holds(self, shares, known):
        """All that the shares tell is this dict: name to (rows of the parts' leaves, uses)."""
        told = shares.rows()
        self.assertIs(type(told), list)
        self.assertEqual(told, [(name, len(known[name][0]), known[name][1]) for name in sorted(known)])
        for name, (parts, uses) in known.items():
            self.assertIs(type(shares.parts(name)), list)
            self.assertEqual(rows_of(shares.parts(name)), parts)
            self.assertEqual([shares.leaf(name, part).row() for part in range(len(parts))], parts)

    def refused_in(self, shares, known, kind, call, *handed):
        self.refused(kind, call, *handed)
        self.holds(shares, known)


class Names(SharesCase):
    def test_each_letter_and_length(self):
        for name in list(string.ascii_lowercase) + [string.ascii_lowercase[:many] for many in range(1, 9)] + ["zzzzzzzz"]:
            shares = Shares()
            self.assertIsNone(shares.fits(name, 2))
            self.holds(shares, {})
            self.assertIsNone(shares.use(name, 2))
            self.holds(shares, {name: ([FRESH, FRESH], 2)})

    def test_no_names(self):
        shares = shares_with(("a", 2))
        for name in NO_NAMES:
            for many in (1, 2, 64):
                self.refused_in(shares, {"a": ([FRESH, FRESH], 2)}, NoName, shares.fits, name, many)
                self.refused_in(shares, {"a": ([FRESH, FRESH], 2)}, NoName, shares.use, name, many)

    def test_every_other_sign_of_one(self):
        shares = Shares()
        for number in range(256):
            if not ord("a") <= number <= ord("z"):
                self.refused(NoName, shares.use, chr(number), 1)
                self.refused(NoName, shares.fits, "a" + chr(number), 1)
        self.holds(shares, {})

    def test_names_alike_in_their_beginnings_are_others(self):
        shares = shares_with(("ab", 1), ("a", 2), ("abc", 3))
        self.holds(shares, {"a": ([FRESH] * 2, 2), "ab": ([FRESH], 1), "abc": ([FRESH] * 3, 3)})


class Using(SharesCase):
    def test_made_with_each_number_of_parts(self):
        for many in range(1, 65):
            shares = shares_with(("a", many))
            self.holds(shares, {"a": ([FRESH] * many, many)})
            shares.use("a", many)
            self.holds(shares, {"a": ([FRESH] * many, 2 * many)})

    def test_fits_does_nothing(self):
        shares = shares_with(("a", 2))
        for turn in range(3):
            self.assertIsNone(shares.fits("a", 2))
            self.assertIsNone(shares.fits("b", 5))
        self.holds(shares, {"a": ([FRESH, FRESH], 2)})

    def test_unlike(self):
        shares, known = shares_with(("a", 2), ("b", 64)), {"a": ([FRESH] * 2, 2), "b": ([FRESH] * 64, 64)}
        for name, many in (("a", 1), ("a", 3), ("a", 64), ("b", 63), ("b", 1)):
            self.refused_in(shares, known, Unlike, shares.fits, name, many)
            self.refused_in(shares, known, Unlike, shares.use, name, many)

    def test_used_again_keeps_the_leaves(self):
        shares = shares_with(("a", 2))
        shares.put("a", 1, Held(3, 5))
        shares.use("a", 2)
        self.holds(shares, {"a": ([FRESH, ("held", 3, 5)], 4)})

    def test_uses_up_and_down(self):
        shares = shares_with(("a", 2), ("b", 1))
        for uses in (3, 4, 5):
            self.assertIsNone(shares.more("a"))
            self.holds(shares, {"a": ([FRESH] * 2, uses), "b": ([FRESH], 1)})
        for uses in (4, 3, 2, 1):
            told = shares.less("a")
            self.assertIs(type(told), list)
            self.assertEqual(told, [])
            self.holds(shares, {"a": ([FRESH] * 2, uses), "b": ([FRESH], 1)})

    def test_gone_tells_its_leaves_in_order_and_is_made_anew(self):
        shares = shares_with(("a", 3), ("b", 1))
        shares.put("a", 2, Held(3, 7))
        shares.put("a", 0, Out(3, 4))
        self.assertEqual([shares.less("a"), shares.less("a")], [[], []])
        told = shares.less("a")
        self.assertIs(type(told), list)
        self.assertEqual(rows_of(told), [("out", 3, 4), FRESH, ("held", 3, 7)])
        self.holds(shares, {"b": ([FRESH], 1)})
        for call in (shares.more, shares.less, shares.parts):
            self.refused_in(shares, {"b": ([FRESH], 1)}, NoShare, call, "a")
        shares.use("a", 2)
        self.holds(shares, {"a": ([FRESH, FRESH], 2), "b": ([FRESH], 1)})

    def test_rows_by_names(self):
        shares = shares_with(("m", 1), ("zz", 2), ("a", 3), ("ma", 4), ("b", 5), ("aa", 6))
        self.assertEqual([row[0] for row in shares.rows()], ["a", "aa", "b", "m", "ma", "zz"])


class Parts(SharesCase):
    def test_each_part_replaced(self):
        for many in (1, 2, 64):
            shares, parts = shares_with(("a", many), ("b", many)), [FRESH] * many
            for part in range(many):
                self.assertIsNone(shares.put("a", part, Held(3, part)))
                parts[part] = ("held", 3, part)
                self.holds(shares, {"a": (parts, many), "b": ([FRESH] * many, many)})

    def test_no_share(self):
        shares, known = shares_with(("a", 2)), {"a": ([FRESH, FRESH], 2)}
        for name in ("b", "aa") + NO_NAMES:
            for call in (shares.more, shares.less, shares.parts):
                self.refused_in(shares, known, NoShare, call, name)
            for part in (0, -1, 5):
                self.refused_in(shares, known, NoShare, shares.leaf, name, part)
                self.refused_in(shares, known, NoShare, shares.put, name, part, Fresh(3))

    def test_no_such_part(self):
        for many in (1, 2, 64):
            shares, known = shares_with(("a", many)), {"a": ([FRESH] * many, many)}
            for part in (-1, -2, -many, many, many + 1, 65) + FAR_ABOVE + FAR_BELOW:
                self.refused_in(shares, known, NoShare, shares.leaf, "a", part)
                self.refused_in(shares, known, NoShare, shares.put, "a", part, Held(3, 1))


class Lists(SharesCase):
    def test_told_lists_are_the_askers_own(self):
        shares, known = shares_with(("a", 2), ("b", 1)), {"a": ([FRESH, FRESH], 2), "b": ([FRESH], 1)}
        for told in (shares.rows(), shares.parts("a"), shares.parts("b")):
            told[0] = None
            told.append(None)
        self.holds(shares, known)
        shares.less("a").append(Fresh(0))
        shares.more("a")
        self.holds(shares, known)
        rows, parts = shares.rows(), shares.parts("a")
        shares.put("a", 0, Held(3, 1))
        shares.use("c", 2)
        shares.more("b")
        self.assertEqual(rows, [("a", 2, 2), ("b", 1, 1)])
        self.assertEqual(rows_of(parts), [FRESH, FRESH])
        shares.less("b")
        gone = shares.less("b")
        shares.use("b", 1)
        shares.put("b", 0, Held(3, 2))
        self.assertEqual(rows_of(gone), [FRESH])
        gone[0] = Out(3, 3)
        self.assertEqual(shares.leaf("b", 0).row(), ("held", 3, 2))

    def test_two_know_nothing_of_each_other(self):
        one, other = shares_with(("a", 1)), Shares()
        self.holds(other, {})
        other.use("a", 2)
        self.holds(one, {"a": ([FRESH], 1)})


class LongRow(SharesCase):
    def test_as_a_plain_dict_would_answer(self):
        chance = random.Random(20)
        shares, known = Shares(), {}
        for turn in range(2000):
            name, many = chance.choice(("a", "b", "ab")), chance.randrange(1, 4)
            deed = chance.choice(("use", "more", "less", "less", "put"))
            if deed == "use":
                self.use(shares, known, name, many)
            elif name not in known:
                self.refused(NoShare, getattr(shares, deed), name, *((0, Fresh(3)) if deed == "put" else ()))
            else:
                getattr(self, deed)(shares, known, name, many)
            self.holds(shares, known)

    def use(self, shares, known, name, many):
        parts, uses = known.get(name, ([FRESH] * many, 0))
        if len(parts) != many:
            self.refused(Unlike, shares.use, name, many)
            return
        shares.use(name, many)
        known[name] = (parts, uses + many)

    def more(self, shares, known, name, many):
        shares.more(name)
        known[name] = (known[name][0], known[name][1] + 1)

    def less(self, shares, known, name, many):
        parts, uses = known.pop(name)
        self.assertEqual(rows_of(shares.less(name)), parts if uses == 1 else [])
        if uses > 1:
            known[name] = (parts, uses - 1)

    def put(self, shares, known, name, many):
        parts = list(known[name][0])
        if many > len(parts):
            self.refused(NoShare, shares.put, name, many - 1, Held(3, many))
            return
        shares.put(name, many - 1, Held(3, many))
        parts[many - 1] = ("held", 3, many)
        known[name] = (parts, known[name][1])


if __name__ == "__main__":
    unittest.main()
