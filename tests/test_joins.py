"""Points 31 to 34, and 2 and 5 where they speak of joins: the joins, the loosest one, and what fits."""

import itertools
import unittest

from grantweave import joins
from grantweave.errors import NoJoin
from grantweave.joins import Beside, Called, Changed, Join, Joined, fit_fault, fits, join_of, loosest
from grantweave.licences import Terms
from tests.helping import JOINS, ODD_THINGS, Refusing, licence

KINDS = (Called, Beside, Joined, Changed)
NO_JOINS = ODD_THINGS + ["call", "calledd", "Called", "CALLED", " called", "called ", "called\n", "beside.1", "joined changed",
                         "join", "change", ["called"], ("called",), {"called": 0}, Called(), Changed(), 2, 3]


class TheJoins(Refusing):
    def test_word_closeness_and_need(self):
        told = [(kind().word(), kind().closeness(), kind().need()) for kind in KINDS]
        self.alike(told, [("called", 0, 1), ("beside", 1, 3), ("joined", 2, 7), ("changed", 3, 15)])

    def test_each_is_of_its_own_class_straight_under_join(self):
        for kind in KINDS:
            self.assertEqual(kind.__bases__, (Join,))
            self.assertEqual([isinstance(kind(), other) for other in KINDS], [other is kind for other in KINDS])
        under = [value for value in vars(joins).values() if isinstance(value, type) and issubclass(value, Join)]
        self.assertEqual(set(under), set(KINDS) | {Join})

    def test_the_join_of_a_word(self):
        for word, kind in zip(JOINS, KINDS):
            self.assertIs(type(join_of(word)), kind)
            self.assertEqual(join_of("".join(list(word))).word(), word)

    def test_what_is_no_word_of_a_join(self):
        for thing in NO_JOINS:
            self.refused(NoJoin, thing, lambda: join_of(thing))


class Loosest(Refusing):
    def test_of_no_joins(self):
        self.assertIs(type(loosest([])), Changed)

    def test_of_one(self):
        for kind in KINDS:
            self.assertIs(type(loosest([kind()])), kind)

    def test_of_several_in_any_order(self):
        for many in range(1, 5):
            for places in itertools.product(range(4), repeat=many):
                row = [KINDS[place]() for place in places]
                kept = list(row)
                self.assertIs(type(loosest(row)), KINDS[min(places)])
                self.assertEqual(row, kept)

    def test_of_many(self):
        self.assertIs(type(loosest([Changed(), Joined()] * 50)), Joined)
        self.assertIs(type(loosest([Changed()] * 90 + [Called()])), Called)


class Fitting(Refusing):
    def fault(self, one, closeness, other, due):
        self.alike(fit_fault(one, closeness, other), due)
        self.assertIs(fits(one, closeness, other), due is None)

    def test_the_least_deed_that_is_not_let(self):
        against = licence(("z", 9), lets=0, strings=63, reach=0)
        for lets in range(32):
            for closeness in range(4):
                missing = [deed for deed in range(closeness + 1) if not lets & 2 ** deed]
                for reach in range(4):
                    one = licence(lets=lets, reach=reach)
                    self.fault(one, closeness, against, ("deed", missing[0]) if missing else None)

    def test_selling_is_never_needed(self):
        self.fault(licence(lets=15), 3, Terms(0, 0, 0, 0), None)
        self.fault(licence(lets=16), 0, Terms(0, 0, 0, 0), ("deed", 0))

    def test_deeds_come_ahead_of_covering(self):
        one = licence(lets=3, strings=1, bars=2, reach=0, same=True)
        self.fault(one, 1, Terms(31, 0, 0, 3), ("lets", 2))
        self.fault(one, 2, Terms(31, 0, 0, 3), ("deed", 2))
        self.fault(one, 3, Terms(31, 0, 0, 3), ("deed", 2))

    def test_each_fault_just_where_the_reach_is_no_greater(self):
        rows = [
            (dict(lets=15), Terms(31, 0, 0, 0), ("lets", 4)),
            (dict(lets=15, strings=6), Terms(15, 2, 0, 0), ("string", 2)),
            (dict(lets=15, bars=40), Terms(15, 0, 0, 0), ("bar", 3)),
            (dict(lets=15, same=True), Terms(15, 0, 0, 0), ("same",)),
            (dict(lets=15, same=True), licence(("share", 1), lets=15, same=True), ("same",)),
            (dict(lets=15, same=True), licence(("free", 2), lets=15, same=True), ("same",)),
            (dict(lets=15, same=True), licence(("share", 3), lets=15, same=False), ("same",)),
            (dict(lets=15, same=True), licence(("share", 3), lets=15, same=True), None),
            (dict(lets=15, strings=1, bars=2), Terms(0, 5, 10, 0), None),
        ]
        for fields, other, due in rows:
            for reach in range(4):
                for closeness in range(4):
                    one = licence(reach=reach, **fields)
                    self.fault(one, closeness, other, due if reach <= closeness else None)

    def test_the_fault_of_the_reach(self):
        for reach in range(4):
            for closeness in range(4):
                for theirs in range(4):
                    due = ("reach", theirs) if reach <= closeness and theirs > reach else None
                    self.fault(licence(lets=15, reach=reach), closeness, Terms(15, 0, 0, theirs), due)
                    self.fault(licence(lets=15, reach=reach), closeness, licence(("a", 1), 15, 0, 0, theirs), due)

    def test_terms_as_well_as_licences(self):
        one = licence(lets=15, strings=1, reach=1)
        for other in (Terms(15, 0, 0, 1), licence(("b", 1), 15, 0, 0, 1), licence(("share", 2), 15, 0, 0, 1, True)):
            self.fault(one, 0, other, None)
            self.fault(one, 1, other, ("string", 0))


class SoItFollows(unittest.TestCase):
    """Point 34 over many licences."""

    def setUp(self):
        self.licences = [licence((word, number), lets, strings, 0, reach, same)
                         for word, number, same in (("a", 1, False), ("a", 1, True), ("a", 2, True), ("b", 1, True))
                         for lets in (1, 7, 15) for strings in (0, 1) for reach in (0, 2, 3)]

    def test_what_fits_at_a_closeness_fits_at_each_lesser_one(self):
        for one, other in itertools.product(self.licences, repeat=2):
            fit = [fits(one, closeness, other) for closeness in range(4)]
            self.assertEqual(fit, sorted(fit, reverse=True))

    def test_what_covers_is_fitted_too(self):
        for one, other, third in itertools.product(self.licences[::3], self.licences, self.licences[1::2]):
            if third.covers(other):
                for closeness in range(4):
                    self.assertTrue(fits(one, closeness, third) or not fits(one, closeness, other))

    def test_two_steps_fit_at_the_lesser_closeness(self):
        for one, other, third in itertools.product(self.licences[::2], self.licences[::3], self.licences[1::2]):
            for near, far in itertools.product(range(4), repeat=2):
                if fits(one, near, other) and fits(other, far, third):
                    self.assertTrue(fits(one, min(near, far), third))


if __name__ == "__main__":
    unittest.main()
