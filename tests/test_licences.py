"""Points 6, 7 and 21 to 23, and 3: terms and licences, their refusals, faults and covering."""

import itertools
import unittest

from grantweave.errors import BadAsks, BadTerms, GrantError, NoDay, NoKey
from grantweave.licences import Licence, Terms
from tests.helping import THIRTY, Refusing, licence

KEY = ("share", 2)
NO_NUMBERS = [True, False, None, "", "1", "use", [], [1], (), (1,), {}, {1: 1}, Terms(0, 0, 0, 0)]
NO_TRUTHS = [0, 1, -1, THIRTY, None, "", "True", [], [True], (), (True,), {}, Terms(0, 0, 0, 0)]
NO_DAYS = [-1, 10000, THIRTY, -THIRTY] + NO_NUMBERS
NO_KEYS = [None, True, 0, "", "share.2", "share", ["share", 2], ("share",), ("share", 2, 3), ("share", True),
           ("share", False), ("share", -1), ("share", 100), ("Share", 2), ("", 2), ("abcdefghi", 2), (2, "share"), {},
           (), Terms(0, 0, 0, 0), Licence(("a", 1), 0, 0, 0, 0)]
BAD_FOURS = ([(lets, 0, 0, 0) for lets in [-1, 32, 33, THIRTY, -THIRTY] + NO_NUMBERS]
             + [(0, strings, 0, 0) for strings in [-1, 64, 65, THIRTY, -THIRTY] + NO_NUMBERS]
             + [(0, 0, bars, 0) for bars in [-1, 64, 65, THIRTY, -THIRTY] + NO_NUMBERS]
             + [(0, 0, 0, reach) for reach in [-1, 4, 5, THIRTY, -THIRTY] + NO_NUMBERS]
             + [(0, 1, 1, 0), (31, 63, 1, 3), (31, 32, 63, 3), (0, 6, 12, 0), (0, 63, 63, 0)])
BAD_ASKS = [False, True, 0, "", "0000", {}, {0: 0, 1: 0, 2: 0, 3: 0}, [], (), [0], [0, 0, 0], (0, 0, 0),
            [0, 0, 0, 0, 0], (0, 0, 0, 0, 0), [0, 0, 0, 64], (0, 0, 0, 64), [-1, 0, 0, 0], [0, 0, 0, True],
            [False, 0, 0, 0], (0, None, 0, 0), [0, "0", 0, 0], [0, 0, [0], 0], [None] * 4, [1, 0, 0, 0], [1, 2, 3, 3],
            [0, 1, 0, 1], (0, 0, 1, 0), (0, 3, 1, 3), [1, 1, 1, 2], [0, 4, 2, 6], [0, 0, 0, THIRTY],
            [63, 63, 63, 31], Terms(0, 0, 0, 0)]


class MakingTerms(Refusing):
    def test_terms_tell_what_they_were_made_of(self):
        for four in [(0, 0, 0, 0), (31, 63, 0, 3), (31, 0, 63, 3), (1, 21, 42, 1), (16, 32, 31, 2)]:
            terms = Terms(*four)
            self.assertEqual(terms.told(), four)
            self.assertIs(type(terms.told()), tuple)
            self.assertEqual((terms.lets, terms.strings, terms.bars, terms.reach), four)

    def test_terms_are_made_by_the_names_of_their_fields(self):
        self.assertEqual(Terms(reach=1, bars=2, strings=4, lets=8).told(), (8, 4, 2, 1))

    def test_all_reaches(self):
        for reach in range(4):
            self.assertEqual(Terms(0, 0, 0, reach).reach, reach)

    def test_all_masks_of_strings(self):
        for strings in range(64):
            for bars in range(64):
                if strings & bars:
                    self.refused(BadTerms, (3, strings, bars, 1), lambda: Terms(3, strings, bars, 1))
                else:
                    self.assertEqual(Terms(3, strings, bars, 1).told(), (3, strings, bars, 1))

    def test_all_masks_of_deeds(self):
        for lets in range(32):
            self.assertEqual(Terms(lets, 0, 0, 0).lets, lets)

    def test_bad_terms(self):
        for four in BAD_FOURS:
            self.refused(BadTerms, four, lambda: Terms(*four))

    def test_all_four_bad(self):
        self.refused(BadTerms, (None, "x", [3], True), lambda: Terms(None, "x", [3], True))

    def test_what_is_handed_in_stays(self):
        thing = [1, [2]]
        self.refused(BadTerms, (0, thing, 0, 0), lambda: Terms(0, thing, 0, 0))
        self.assertEqual(thing, [1, [2]])


class MakingLicences(Refusing):
    def test_a_licence_tells_what_it_was_made_of(self):
        made = Licence(("abcdefgh", 99), 31, 5, 58, 3, True, (0, 1, 3, 63), 7, 8, False)
        ten = (("abcdefgh", 99), 31, 5, 58, 3, True, (0, 1, 3, 63), 7, 8, False)
        self.alike(made.told(), ten)
        self.alike((made.key, made.lets, made.strings, made.bars, made.reach, made.same, made.asks, made.first,
                    made.last, made.lasting), ten)

    def test_what_is_left_out(self):
        self.alike(Licence(KEY, 1, 2, 4, 3).told(), (KEY, 1, 2, 4, 3, False, (0, 0, 0, 0), 0, 9999, True))

    def test_a_licence_is_made_by_the_names_of_its_fields(self):
        made = Licence(lasting=False, last=6, first=5, asks=[1, 1, 1, 1], same=True, reach=3, bars=4, strings=2,
                       lets=1, key=KEY)
        self.alike(made.told(), (KEY, 1, 2, 4, 3, True, (1, 1, 1, 1), 5, 6, False))

    def test_a_licence_is_terms(self):
        self.assertIsInstance(licence(), Terms)
        self.assertEqual(Licence.__bases__, (Terms,))

    def test_licences_made_alike_tell_alike(self):
        one = licence(asks=[0, 1, 1, 3])
        other = licence(asks=(0, 1, 1, 3))
        self.assertEqual(one.told(), other.told())
        self.assertEqual(one.told(), one.told())

    def test_no_key(self):
        for thing in NO_KEYS:
            self.refused(NoKey, thing, lambda: licence(key=thing))

    def test_keys_at_their_bounds(self):
        for key in [("a", 0), ("z", 99), ("abcdefgh", 10)]:
            self.assertEqual(licence(key=key).key, key)

    def test_bad_terms(self):
        for four in BAD_FOURS:
            self.refused(BadTerms, four, lambda: Licence(KEY, *four))

    def test_same_is_a_truth(self):
        for thing in NO_TRUTHS:
            self.refused(BadTerms, thing, lambda: licence(same=thing))

    def test_lasting_is_a_truth(self):
        for thing in NO_TRUTHS:
            self.refused(BadTerms, thing, lambda: licence(lasting=thing))

    def test_asks(self):
        for asks in [[0, 0, 0, 0], (0, 0, 0, 0), [0, 1, 3, 7], (0, 0, 0, 63), [63, 63, 63, 63], (4, 4, 6, 38)]:
            self.alike(licence(asks=asks).asks, tuple(asks))
        self.alike(licence(asks=None).asks, (0, 0, 0, 0))

    def test_bad_asks(self):
        for thing in BAD_ASKS:
            self.refused(BadAsks, thing, lambda: licence(asks=thing))

    def test_each_pair_of_neighbours_in_asks(self):
        for asks in itertools.product(range(4), repeat=4):
            if all(asks[k] & asks[k + 1] == asks[k] for k in range(3)):
                self.assertEqual(licence(asks=list(asks)).asks, asks)
            else:
                self.refused(BadAsks, asks, lambda: licence(asks=asks))

    def test_first_day(self):
        for thing in NO_DAYS:
            self.refused(NoDay, thing, lambda: licence(first=thing))

    def test_last_day(self):
        for thing in NO_DAYS:
            self.refused(NoDay, thing, lambda: licence(last=thing))

    def test_days_at_their_bounds(self):
        for first, last in [(0, 0), (0, 9999), (9999, 9999), (5, 5), (5, 6)]:
            made = licence(first=first, last=last)
            self.assertEqual((made.first, made.last), (first, last))

    def test_the_last_day_is_not_less_than_the_first_one(self):
        for first, last in [(1, 0), (9999, 9998), (6, 5), (9999, 0)]:
            self.refused(NoDay, last, lambda: licence(first=first, last=last))

    def test_a_changed_list_of_masks_changes_nothing(self):
        asks = [0, 1, 1, 3]
        made = licence(asks=asks)
        asks[0] = 1
        asks.append(7)
        self.alike(made.asks, (0, 1, 1, 3))
        self.alike(made.told()[6], (0, 1, 1, 3))
        self.assertEqual(asks, [1, 1, 1, 3, 7])

    def test_the_list_of_masks_stays(self):
        for asks in [[0, 1, 1, 3], [3, 1, 1, 0], [0, 0]]:
            kept = list(asks)
            try:
                licence(asks=asks)
            except BadAsks:
                pass
            self.assertEqual(asks, kept)


class TwoRefusals(Refusing):
    STEPS = [
        ("key", "share.2", NoKey, "share.2"), ("lets", 32, BadTerms, (32, 0, 0, 0)), ("same", 1, BadTerms, 1),
        ("asks", [0], BadAsks, [0]), ("first", -5, NoDay, -5), ("last", 10005, NoDay, 10005),
        ("lasting", "no", BadTerms, "no"),
    ]

    def test_the_one_told_first_is_given(self):
        for one, other in itertools.combinations(self.STEPS, 2):
            self.refused(one[2], one[3], lambda: licence(**{one[0]: one[1], other[0]: other[1]}))

    def test_each_of_the_four_comes_in_its_place(self):
        for name, place in [("lets", 0), ("strings", 1), ("bars", 2), ("reach", 3)]:
            four = tuple(-1 if place == k else 0 for k in range(4))
            self.refused(NoKey, None, lambda: licence(**{"key": None, name: -1}))
            self.refused(BadTerms, four, lambda: licence(**{name: -1, "same": 0, "asks": 0}))

    def test_all_at_once(self):
        for start in range(len(self.STEPS)):
            wrong = {step[0]: step[1] for step in self.STEPS[start:]}
            self.refused(self.STEPS[start][2], self.STEPS[start][3], lambda: licence(**wrong))

    def test_a_wrong_order_of_days_comes_behind_asks_and_ahead_of_lasting(self):
        self.refused(BadAsks, 3, lambda: licence(asks=3, first=6, last=5))
        self.refused(NoDay, 5, lambda: licence(first=6, last=5, lasting=None))

    def test_each_refusal_is_a_grant_error(self):
        for name, thing, error, found in self.STEPS:
            with self.assertRaises(GrantError):
                licence(**{name: thing})


def members(mask):
    return {k for k in range(6) if mask // 2 ** k % 2 == 1}


def plain_fault(n, c):
    """What point 22 says, over sets, so that the program's own way with masks isn't trusted."""
    for word, more in [("lets", members(n.lets) - members(c.lets)),
                       ("string", members(c.strings) - members(n.strings)),
                       ("bar", members(c.bars) - members(n.bars))]:
        if more:
            return (word, min(more))
    if n.reach > c.reach:
        return ("reach", n.reach)
    if not isinstance(c, Licence) or not c.same:
        return None
    if isinstance(n, Licence) and n.same and n.key[0] == c.key[0] and n.key[1] >= c.key[1]:
        return None
    return ("same",)


def pool():
    made = []
    for lets, strings, bars, reach in itertools.product((0, 1, 6, 31), (0, 2), (0, 1, 5), (0, 2, 3)):
        made.append(Terms(lets, strings, bars, reach))
    for key, same, lets, strings, reach in itertools.product(
            (("a", 1), ("a", 2), ("b", 1)), (False, True), (1, 3), (0, 34), (1, 2)):
        made.append(Licence(key, lets, strings, 4, reach, same))
    return made


class Faults(unittest.TestCase):
    def told(self, n, c, fault):
        self.assertEqual(n.fault(c), fault)
        self.assertIs(type(n.fault(c)), type(fault))
        self.assertIs(n.covers(c), fault is None)

    def test_the_least_deed(self):
        self.told(Terms(31, 0, 0, 0), Terms(0, 0, 0, 0), ("lets", 0))
        self.told(Terms(31, 0, 0, 0), Terms(3, 0, 0, 0), ("lets", 2))
        self.told(Terms(20, 0, 0, 0), Terms(4, 0, 0, 0), ("lets", 4))
        self.told(Terms(2, 0, 0, 0), Terms(29, 0, 0, 0), ("lets", 1))
        self.told(Terms(3, 0, 0, 0), Terms(31, 0, 0, 0), None)

    def test_the_least_string(self):
        self.told(Terms(0, 0, 0, 0), Terms(0, 63, 0, 0), ("string", 0))
        self.told(Terms(0, 3, 0, 0), Terms(0, 63, 0, 0), ("string", 2))
        self.told(Terms(0, 31, 0, 0), Terms(0, 63, 0, 0), ("string", 5))
        self.told(Terms(0, 63, 0, 0), Terms(0, 5, 0, 0), None)

    def test_the_least_bar(self):
        self.told(Terms(0, 0, 0, 0), Terms(0, 0, 63, 0), ("bar", 0))
        self.told(Terms(0, 0, 3, 0), Terms(0, 0, 63, 0), ("bar", 2))
        self.told(Terms(0, 0, 31, 0), Terms(0, 0, 63, 0), ("bar", 5))
        self.told(Terms(0, 0, 63, 0), Terms(0, 0, 5, 0), None)

    def test_the_reach(self):
        for n in range(4):
            for c in range(4):
                self.told(Terms(0, 0, 0, n), Terms(0, 0, 0, c), ("reach", n) if n > c else None)

    def test_the_order_of_faults(self):
        c = licence(("share", 2), 1, 1, 2, 0, same=True)
        self.told(Terms(3, 0, 0, 1), c, ("lets", 1))
        self.told(Terms(1, 0, 0, 1), c, ("string", 0))
        self.told(Terms(1, 1, 0, 1), c, ("bar", 1))
        self.told(Terms(1, 1, 2, 1), c, ("reach", 1))
        self.told(Terms(1, 1, 2, 0), c, ("same",))
        self.told(licence(("share", 2), 1, 1, 2, 0, same=True), c, None)

    def test_a_string_that_is_barred_is_not_laid_on(self):
        self.told(Terms(0, 0, 1, 0), Terms(0, 1, 0, 0), ("string", 0))
        self.told(Terms(0, 1, 0, 0), Terms(0, 0, 1, 0), ("bar", 0))

    def test_same_ones_of_the_same_word(self):
        c = licence(("share", 5), same=True)
        self.told(licence(("share", 4), same=True), c, ("same",))
        self.told(licence(("share", 5), same=True), c, None)
        self.told(licence(("share", 6), same=True), c, None)
        self.told(licence(("share", 10), same=True), c, None)
        self.told(licence(("share", 0), same=True), c, ("same",))

    def test_same_ones_of_another_word(self):
        c = licence(("share", 5), same=True)
        for word in ("a", "shar", "shares", "zzz"):
            for number in (4, 5, 6):
                self.told(licence((word, number), same=True), c, ("same",))

    def test_a_same_one_is_covered_by_no_free_one(self):
        c = licence(("share", 5), same=True)
        for number in (4, 5, 6):
            self.told(licence(("share", number), same=False), c, ("same",))

    def test_a_free_one_may_be_covered_by_a_same_one(self):
        c = licence(("share", 5), same=False)
        for key in [("share", 4), ("share", 5), ("other", 0)]:
            self.told(licence(key, same=True), c, None)

    def test_terms_against_licences(self):
        terms = Terms(1, 1, 2, 1)
        free = licence(("a", 1), 1, 1, 2, 1)
        same = licence(("a", 1), 1, 1, 2, 1, same=True)
        self.told(terms, free, None)
        self.told(free, terms, None)
        self.told(terms, same, ("same",))
        self.told(same, terms, None)
        self.told(terms, Terms(1, 1, 2, 1), None)

    def test_keys_asks_and_days_make_no_difference(self):
        one = licence(("a", 1), 3, 1, 2, 1, False, [0, 0, 1, 1], 5, 6, False)
        other = licence(("b", 9), 3, 1, 2, 1, False, [7, 7, 7, 7], 90, 91, True)
        self.told(one, other, None)
        self.told(other, one, None)

    def test_all_of_a_pool(self):
        made = pool()
        for n in made:
            for c in made:
                self.told(n, c, plain_fault(n, c))

    def test_each_covers_itself(self):
        for n in pool():
            self.assertIs(n.covers(n), True)

    def test_what_covers_a_coverer_covers(self):
        made = pool()
        covered = [[c for c, other in enumerate(made) if n.covers(other)] for n in made]
        for n in range(len(made)):
            for c in covered[n]:
                self.assertLessEqual(set(covered[c]), set(covered[n]))

    def test_asking_changes_nothing(self):
        made = pool()
        told = [one.told() for one in made]
        for n in made[::7]:
            for c in made:
                n.fault(c)
                n.covers(c)
        self.assertEqual([one.told() for one in made], told)


class SameOnes(unittest.TestCase):
    def test_wants_same(self):
        self.assertIs(Terms(0, 0, 0, 0).wants_same(), False)
        self.assertIs(licence(same=False).wants_same(), False)
        self.assertIs(licence(same=True).wants_same(), True)

    def test_terms_are_later_than_none(self):
        self.assertIs(Terms(0, 0, 0, 0).is_later(licence(same=True)), False)
        self.assertIs(Terms(0, 0, 0, 0).is_later(licence(same=False)), False)

    def test_is_later(self):
        for other_same in (False, True):
            other = licence(("share", 5), same=other_same)
            for number in range(100):
                self.assertIs(licence(("share", number), same=True).is_later(other), number >= 5)
                self.assertIs(licence(("share", number), same=False).is_later(other), False)
                self.assertIs(licence(("shore", number), same=True).is_later(other), False)


if __name__ == "__main__":
    unittest.main()
