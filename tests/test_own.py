"""Points 81 to 86, and 3, 6 and 51 where they speak of them: own terms, or picks that force a clash."""

import itertools
import random
import unittest

from grantweave.book import Book
from grantweave.booktext import show_book
from grantweave.errors import NoKey, NoPart
from grantweave.licences import Licence, Terms
from grantweave.own import chain_holds, clash_at, own_terms, usable
from grantweave.whole import choice_fits, told_keys
from grantweave.works import Part
from tests.helping import JOINS, NO_KEYS, NO_NAMES, ODD_THINGS, Refusing, any_work, in_reading_order, licence, part_name

OPEN, SHUN, NAME, NONE, SAME, SHUT = ("open", 1), ("shun", 1), ("name", 1), ("none", 1), ("same", 1), ("shut", 1)
BOTH, FAR = ("both", 1), ("far", 1)
GONE, LOST = ("gone", 1), ("lost", 2)


def sample_book():
    """Of strings 0 and 1: open lays 0 on, shun bars 0, name lays 1 on, both bars both, far lays both on from changed on."""
    return Book(["open", "named"], ["list"], [
        licence(OPEN, lets=31, strings=1, reach=1), licence(SHUN, lets=15, bars=1, reach=2),
        licence(NAME, lets=31, strings=2, reach=1), licence(NONE, lets=31, reach=3),
        licence(SAME, lets=31, reach=2, same=True), licence(SHUT, lets=3, reach=1),
        licence(BOTH, lets=31, bars=3, reach=1), licence(FAR, lets=31, strings=3, reach=3),
    ])


def flat(rows, join="joined"):
    """A work without offers at its top, and right beneath it a part for each row of offers."""
    return Part("top", None, [(join, Part(name, offers)) for name, offers in rows])


def deed_or_same(one, closeness):
    for deed in range(closeness + 1):
        if one.lets // 2 ** deed % 2 == 0:
            return ("deed", deed)
    return ("same",) if one.same and one.reach <= closeness else None


class Words:
    """Point 81 by its words, of one book and one work."""

    def __init__(self, book, work):
        self.book = book
        self.rows = [row for row in in_reading_order(work.told()) if row[1]]
        self.closeness = {name: closeness for name, offers, closeness in self.rows}
        self.usable = {name: [offer for offer in offers if self.fault(name, offer) is None] for name, offers, closeness in self.rows}

    def fault(self, name, offer):
        return deed_or_same(self.book.licence(offer), self.closeness[name])

    def binds(self, pick):
        return self.book.licence(pick[1]).reach <= self.closeness[pick[0]]

    def clash(self, one, other):
        first, second = self.book.licence(one[1]), self.book.licence(other[1])
        if one[0] == other[0] or not self.binds(one) or not self.binds(other):
            return None
        for place in range(6):
            bit = 2 ** place
            if (first.strings & bit and second.bars & bit) or (first.bars & bit and second.strings & bit):
                return place
        return None

    def is_chain(self, chain):
        if not chain or self.clash(chain[-1], chain[0]) is None:
            return False
        for name, key in chain:
            if key not in self.usable[name]:
                return False
        for ahead, (name, key) in zip(chain, chain[1:]):
            for other in self.usable[name]:
                if other != key and self.clash((name, other), ahead) is None:
                    return False
        return True

    def choices(self):
        """All choices without a clash."""
        found = []
        for picks in itertools.product(*self.usable.values()):
            choice = dict(zip(self.usable, picks))
            if all(self.clash(one, other) is None for one, other in itertools.combinations(choice.items(), 2)):
                found.append(choice)
        return found

    def terms(self, choice):
        bound = [self.book.licence(pick[1]) for pick in choice.items() if self.binds(pick)]
        lets, strings, bars = 31, 0, 0
        for one in bound:
            lets, strings, bars = lets & one.lets, strings | one.strings, bars | one.bars
        return (lets, strings, bars, min([3] + [one.reach for one in bound]))


def clashing_book(chance, many, of_strings=3):
    """A book by chance of which many a licence lays on what another one bars."""
    licences = []
    for number in range(many):
        laid = chance.randrange(2 ** of_strings)
        bars = chance.randrange(2 ** of_strings) & ~laid
        licences.append(licence(("l", number), chance.choice([31, 31, 31, 15, 7, 30]), laid, bars, chance.choice([0, 0, 1, 2, 3]),
                                chance.random() < 0.1))
    return Book(["a", "b", "c", "d", "e", "f"][:of_strings], [], licences)


class Usable(Refusing):
    """Points 81 and 82."""

    def test_by_a_deed_and_by_being_a_same_one(self):
        due = {"called": [True, True], "beside": [True, True], "joined": [False, False], "changed": [False, False]}
        for join in JOINS:
            found = usable(sample_book(), flat([("a", [SHUT]), ("b", [SAME, NONE])], join))
            self.assertIs(type(found), dict)
            self.alike(found["a"], [SHUT] if due[join][0] else [])
            self.alike(found["b"], [SAME, NONE] if due[join][1] else [NONE])

    def test_in_the_order_of_the_offers(self):
        self.alike(usable(sample_book(), flat([("a", [OPEN, SHUN]), ("b", [SHUN, OPEN])])), {"a": [OPEN, SHUN], "b": [SHUN, OPEN]})

    def test_of_parts_with_offers_alone(self):
        work = Part("a", [NONE], [("called", Part("b", None, [("changed", Part("c", [SHUT]))]))])
        self.assertEqual(usable(sample_book(), work), {"a": [NONE], "c": [SHUT]})
        self.alike(usable(sample_book(), Part("a")), {})

    def test_the_top_is_changed(self):
        self.alike(usable(sample_book(), Part("a", [SAME, SHUT])), {"a": []})

    def test_each_deed(self):
        for closeness, join in enumerate(JOINS):
            for deed in range(5):
                book = Book([], [], [licence(NONE, lets=31 - 2 ** deed)])
                self.alike(usable(book, flat([("a", [NONE])], join)), {"a": [] if deed <= closeness else [NONE]})

    def test_dicts_and_lists_are_the_askers_own(self):
        book, work = sample_book(), flat([("a", [OPEN, SHUN])])
        found = usable(book, work)
        found["a"].clear()
        found.clear()
        self.alike(usable(book, work), {"a": [OPEN, SHUN]})

    def test_by_the_words_of_the_document(self):
        chance = random.Random(81)
        for turn in range(60):
            book = clashing_book(chance, 12)
            work = any_work(chance, book.all_keys(), chance.randrange(1, 31))
            self.assertEqual(usable(book, work), Words(book, work).usable)


class Clash(Refusing):
    """Points 81 and 82."""

    def setUp(self):
        self.book = sample_book()

    def at(self, one, other, join="joined"):
        work = flat([("a", [one]), ("b", [other])], join)
        found = clash_at(self.book, work, ("a", one), ("b", other))
        self.alike(clash_at(self.book, work, ("b", other), ("a", one)), found)
        return found

    def test_either_way_round(self):
        self.alike(self.at(OPEN, SHUN), 0)
        self.alike(self.at(SHUN, OPEN), 0)
        self.alike(self.at(NAME, BOTH), 1)
        self.alike(self.at(BOTH, NAME), 1)

    def test_none(self):
        for one, other in ((OPEN, NAME), (OPEN, NONE), (SHUN, BOTH), (OPEN, OPEN), (BOTH, BOTH), (SHUN, NAME), (OPEN, FAR)):
            self.assertIsNone(self.at(one, other))

    def test_only_where_both_bind(self):
        due = {"called": None, "beside": None, "joined": 0, "changed": 0}
        for join in JOINS:
            self.alike(self.at(OPEN, SHUN, join), due[join])
        due = {"called": None, "beside": 0, "joined": 0, "changed": 0}
        for join in JOINS:
            self.alike(self.at(OPEN, BOTH, join), due[join])
            self.alike(self.at(BOTH, FAR, join), 0 if join == "changed" else None)

    def test_the_least_string_whichever_lays_it_on(self):
        for place, other in itertools.permutations(range(6), 2):
            one = licence(("l", 1), 31, strings=2 ** place, bars=2 ** other)
            two = licence(("l", 2), 31, strings=2 ** other, bars=2 ** place)
            work = flat([("a", [("l", 1)]), ("b", [("l", 2)])])
            book = Book(["a", "b", "c", "d", "e", "f"], [], [one, two])
            self.alike(clash_at(book, work, ("a", ("l", 1)), ("b", ("l", 2))), min(place, other))

    def test_picks_of_one_part_never_clash(self):
        work = flat([("a", [OPEN, SHUN])])
        for one, other in itertools.product([OPEN, SHUN], repeat=2):
            self.assertIsNone(clash_at(self.book, work, ("a", one), ("a", other)))

    def test_whether_they_can_be_had_is_not_asked(self):
        book = Book(["s"], [], [licence(OPEN, lets=0, strings=1), licence(SHUN, lets=31, bars=1, same=True)])
        work = flat([("a", [OPEN]), ("b", [SHUN])])
        self.alike(usable(book, work), {"a": [], "b": []})
        self.alike(clash_at(book, work, ("a", OPEN), ("b", SHUN)), 0)

    def test_what_is_no_name_of_a_part_with_offers(self):
        work = flat([("a", [OPEN]), ("b", [SHUN])])
        for thing in NO_NAMES + ["top"]:
            for key in (OPEN, None, GONE, ["open", 1]):
                self.refused(NoPart, thing, lambda: clash_at(self.book, work, (thing, key), ("y", GONE)))
                self.refused(NoPart, thing, lambda: clash_at(self.book, work, ("a", OPEN), (thing, key)))

    def test_what_is_none_of_the_parts_offers(self):
        work = flat([("a", [OPEN]), ("b", [SHUN, NONE])])
        for thing in NO_KEYS + [("open", True), ("shun", True), NAME, "open.1", ["open", 1]]:
            self.refused(NoKey, thing, lambda: clash_at(self.book, work, ("a", thing), ("y", GONE)))
            self.refused(NoKey, thing, lambda: clash_at(self.book, work, ("a", OPEN), ("b", thing)))
            self.refused(NoKey, thing, lambda: clash_at(self.book, work, ("b", thing), ("b", SHUN)))
            self.refused(NoKey, thing, lambda: clash_at(self.book, work, ("b", SHUN), ("b", thing)))
        self.refused(NoKey, SHUN, lambda: clash_at(self.book, work, ("a", SHUN), ("b", SHUN)))
        self.refused(NoKey, OPEN, lambda: clash_at(self.book, work, ("a", OPEN), ("b", OPEN)))

    def test_by_the_words_of_the_document(self):
        chance = random.Random(82)
        seen = set()
        for turn in range(40):
            book = clashing_book(chance, 12, 6)
            work = any_work(chance, book.all_keys(), 9)
            words = Words(book, work)
            picks = [(name, offer) for name, offers, closeness in words.rows for offer in offers]
            for one, other in itertools.product(picks, repeat=2):
                found = clash_at(book, work, one, other)
                self.alike(found, words.clash(one, other))
                seen.add(found)
        self.assertGreater(len(seen), 5)


class Asking(Refusing):
    def held(self, book, work):
        """What is told must hold by the words of points 83 to 85; told is the first word of it."""
        told = own_terms(book, work)
        words = Words(book, work)
        self.assertIs(type(told), tuple)
        self.assertEqual(len(told), 3)
        without = [name for name in words.usable if not words.usable[name]]
        if without:
            name = without[0]
            self.alike(told, ("stopped", name, [(offer, words.fault(name, offer)) for offer in work.at(name).offers]))
        elif told[0] == "own":
            self.held_choice(book, work, words, told[1], told[2])
        else:
            self.assertEqual(told[0], "clash")
            self.held_chains(book, work, words, told[1], told[2])
        return told[0]

    def held_choice(self, book, work, words, choice, terms):
        self.assertIs(type(choice), dict)
        self.assertIs(type(terms), Terms)
        self.assertEqual(set(choice), set(words.usable))
        for name in choice:
            self.assertIn(choice[name], words.usable[name])
        for one, other in itertools.combinations(choice.items(), 2):
            self.assertIsNone(words.clash(one, other))
        self.alike(terms.told(), words.terms(choice))
        for pick in choice.items():
            self.assertTrue(not words.binds(pick) or terms.covers(book.licence(pick[1])))

    def held_chains(self, book, work, words, name, chains):
        self.assertIs(type(chains), list)
        self.assertEqual(len(chains), len(words.usable[name]))
        for key, chain in zip(words.usable[name], chains):
            self.alike(chain[0], (name, key))
            self.assertIs(type(chain), list)
            self.assertLessEqual(len(chain), 60)
            self.assertTrue(words.is_chain(chain))
            self.assertIs(chain_holds(book, work, chain), True)


class Own(Asking):
    """Points 83 and 85."""

    def test_a_work_that_binds_nowhere(self):
        rows = [("a", [OPEN, SHUN]), ("b", [BOTH]), ("c", [FAR])]
        told = own_terms(sample_book(), flat(rows, "called"))
        self.assertEqual(told[0], "own")
        self.alike(told[2].told(), (31, 0, 0, 3))
        self.assertEqual(self.held(sample_book(), flat(rows, "called")), "own")

    def test_a_work_without_offers(self):
        told = own_terms(sample_book(), Part("a", None, [("changed", Part("b"))]))
        self.alike(told[:2], ("own", {}))
        self.assertIs(type(told[2]), Terms)
        self.alike(told[2].told(), (31, 0, 0, 3))

    def test_the_terms_of_one_choice(self):
        book = Book(["a", "b", "c", "d"], [], [
            licence(OPEN, 31, 1, 8, 1), licence(SHUN, 15, 2, 8, 2), licence(NAME, 31, 4, 0, 2), licence(NONE, 15, 3, 4, 3)])
        told = own_terms(book, flat([("a", [OPEN]), ("b", [SHUN]), ("c", [NAME]), ("d", [NONE])]))
        self.alike(told[:2], ("own", {"a": OPEN, "b": SHUN, "c": NAME, "d": NONE}))
        self.alike(told[2].told(), (15, 7, 8, 1))

    def test_each_field_by_itself(self):
        for lets, strings, bars, reach in [(23, 0, 0, 2), (31, 1, 0, 2), (31, 0, 1, 2), (31, 0, 0, 0), (31, 0, 0, 1)]:
            book = Book(["s"], [], [licence(OPEN, lets, strings, bars, reach)])
            told = own_terms(book, flat([("a", [OPEN])]))
            self.alike(told[2].told(), (lets, strings, bars, reach))
            # A part that is called doesn't bind, but for a reach of 0.
            told = own_terms(book, flat([("a", [OPEN])], "called"))
            self.alike(told[2].told(), (lets, strings, bars, reach) if reach == 0 else (31, 0, 0, 3))

    def test_a_choice_of_the_second_offer(self):
        told = own_terms(sample_book(), flat([("a", [OPEN, NONE]), ("b", [SHUN])]))
        self.alike(told[:2], ("own", {"a": NONE, "b": SHUN}))
        self.alike(told[2].told(), (15, 0, 1, 2))
        told = own_terms(sample_book(), flat([("a", [SAME, OPEN]), ("b", [SHUT, NAME])]))
        self.alike(told[:2], ("own", {"a": OPEN, "b": NAME}))

    def forcing(self, last):
        """Each licence l.k lays on string k; b.k bars it: a part of b.k or l.k+1 is forced to l.k+1 by l.k."""
        licences = [licence(("l", k), 31, 2 ** k) for k in range(6)] + [licence(("b", k), 31, 0, 2 ** k) for k in range(6)]
        rows = [("start", [("l", 0)])] + [("p" + "abcde"[k], [("b", k), ("l", k + 1)]) for k in range(5)] + [last]
        return Book(["a", "b", "c", "d", "e", "f"], [], licences), rows

    def test_forced_through_several_parts(self):
        book, rows = self.forcing(("end", [("b", 5), ("l", 0)]))
        due = dict([("start", ("l", 0)), ("end", ("l", 0))] + [("p" + "abcde"[k], ("l", k + 1)) for k in range(5)])
        chance = random.Random(83)
        for turn in range(20):
            work = Part("top", None, [("changed", Part("ya", None, [("joined", Part(*row)) for row in rows[:4]])),
                                      ("changed", Part("yb", None, [("changed", Part(*row)) for row in rows[4:]]))])
            told = own_terms(book, work)
            self.assertEqual(told[:2], ("own", due))
            self.assertEqual(told[2].told(), (31, 63, 0, 0))
            self.assertEqual(self.held(book, work), "own")
            chance.shuffle(rows)

    def test_forced_to_a_clash(self):
        book, rows = self.forcing(("end", [("b", 5)]))
        chance = random.Random(84)
        for turn in range(20):
            work = Part("top", None, [("changed", Part("ya", None, [("joined", Part(*row)) for row in rows[:4]])),
                                      ("changed", Part("yb", None, [("changed", Part(*row)) for row in rows[4:]]))])
            self.assertEqual(self.held(book, work), "clash")
            chance.shuffle(rows)

    def test_terms_are_covered_by_what_covers_all_that_bind(self):
        chance = random.Random(85)
        for turn in range(60):
            book = clashing_book(chance, 8)
            work = any_work(chance, book.all_keys(), 5)
            told = own_terms(book, work)
            if told[0] == "own":
                words = Words(book, work)
                bound = [book.licence(pick[1]) for pick in told[1].items() if words.binds(pick)]
                others = [book.licence(key) for key in book.all_keys()]
                for again in range(50):
                    laid = chance.randrange(8) | told[2].strings
                    bars = (chance.randrange(8) | told[2].bars) & ~laid
                    others.append(Terms(chance.randrange(32), laid, bars, chance.randrange(4)))
                for other in others:
                    if all(other.covers(one) for one in bound):
                        self.assertTrue(other.covers(told[2]))

    def test_a_licence_of_these_terms_is_told(self):
        chance = random.Random(86)
        held = 0
        for turn in range(120):
            book = clashing_book(chance, chance.randrange(2, 12))
            work = any_work(chance, book.all_keys(), 8)
            told = own_terms(book, work)
            if told[0] == "own":
                held += 1
                added = Licence(("own", 1), *told[2].told())
                more = Book(book.string_names(), [], [book.licence(key) for key in book.all_keys()] + [added])
                self.assertIn(("own", 1), told_keys(more, work))
                self.assertIs(choice_fits(more, work, ("own", 1), told[1]), True)
        self.assertGreater(held, 20)


class Without(Asking):
    """Point 83: parts of which no pick can be had, and works of which no choice is without a clash."""

    def test_the_first_part_of_which_no_pick_can_be_had(self):
        rows = [("a", [OPEN]), ("b", [SHUN]), ("c", [SHUT, SAME]), ("d", [SAME])]
        self.alike(own_terms(sample_book(), flat(rows)), ("stopped", "c", [(SHUT, ("deed", 2)), (SAME, ("same",))]))
        self.alike(own_terms(sample_book(), flat(rows[::-1])), ("stopped", "d", [(SAME, ("same",))]))
        work = Part("a", [OPEN], [("called", Part("b", [SHUT])), ("changed", Part("c", [OPEN], [("changed", Part("d", [SHUT]))])),
                                  ("changed", Part("e", [SAME]))])
        self.alike(own_terms(sample_book(), work), ("stopped", "d", [(SHUT, ("deed", 2))]))

    def test_the_least_deed_ahead_of_same(self):
        for lets, due in ((0, ("deed", 0)), (1, ("deed", 1)), (26, ("deed", 0)), (11, ("deed", 2)), (23, ("deed", 3)), (15, ("same",))):
            book = Book([], [], [licence(SAME, lets, same=True)])
            self.alike(own_terms(book, Part("a", [SAME])), ("stopped", "a", [(SAME, due)]))

    def test_a_same_one_that_does_not_bind(self):
        told = own_terms(sample_book(), flat([("a", [SAME])], "beside"))
        self.alike(told[:2], ("own", {"a": SAME}))
        self.alike(told[2].told(), (31, 0, 0, 3))

    def test_two_that_clash(self):
        told = own_terms(sample_book(), flat([("a", [OPEN]), ("b", [SHUN])]))
        self.assertEqual(told[0], "clash")
        self.assertEqual(self.held(sample_book(), flat([("a", [OPEN]), ("b", [SHUN])])), "clash")

    def test_two_ways_that_both_clash(self):
        work = flat([("a", [OPEN, NAME]), ("b", [BOTH])])
        self.assertEqual(self.held(sample_book(), work), "clash")
        work = flat([("a", [OPEN, NAME]), ("b", [BOTH, SAME])])
        self.assertEqual(self.held(sample_book(), work), "clash")
        self.assertEqual(self.held(sample_book(), flat([("a", [OPEN, NAME]), ("b", [BOTH, NONE])])), "own")

    def test_a_part_of_two_picks_told_with_two_chains(self):
        """No part has one pick alone, so that each told chain begins a part of two."""
        licences = [licence(("l", k), 31, k, 3 - k) for k in range(4)]
        book = Book(["a", "b"], [], licences)
        work = flat([("a", [("l", 0), ("l", 1)]), ("b", [("l", 2), ("l", 3)])])
        told = own_terms(book, work)
        self.assertEqual((told[0], len(told[2])), ("clash", 2))
        self.assertEqual(self.held(book, work), "clash")

    def test_by_chance(self):
        chance = random.Random(87)
        seen = {}
        for turn in range(900):
            book = clashing_book(chance, chance.randrange(2, 13), chance.randrange(1, 7))
            work = any_work(chance, book.all_keys(), chance.randrange(1, 9))
            told = self.held(book, work)
            words = Words(book, work)
            if all(words.usable.values()):
                self.assertEqual(told, "own" if words.choices() else "clash")
            twos = told == "clash" and len(own_terms(book, work)[2]) == 2
            seen[(told, twos)] = seen.get((told, twos), 0) + 1
        self.assertGreater(min(seen.values()), 3)
        self.assertEqual(len(seen), 4)

    def test_great_works_by_chance(self):
        """Parts of two picks each, with few clashes, so that choices are forced, and chains are long."""
        chance = random.Random(88)
        longest = 0
        seen = set()
        for turn in range(60):
            licences = []
            for number in range(12):
                places = chance.sample(range(6), 2)
                licences.append(licence(("l", number), 31, 2 ** places[0], chance.choice([0, 2 ** places[1]]), 0))
            book = Book(["a", "b", "c", "d", "e", "f"], [], licences)
            rows = [("changed", Part(part_name(k), chance.sample(book.all_keys(), 2))) for k in range(chance.randrange(3, 24))]
            sixes = [Part("t" + "abcd"[k], None, rows[k * 6:k * 6 + 6]) for k in range(4)]
            work = Part("top", None, [("changed", six) for six in sixes])
            told = self.held(book, work)
            seen.add(told)
            if told == "clash":
                longest = max([longest] + [len(chain) for chain in own_terms(book, work)[2]])
        self.assertEqual(seen, {"own", "clash"})
        self.assertGreater(longest, 3)

    def test_what_is_told_is_the_askers_own(self):
        book, work = sample_book(), flat([("a", [OPEN]), ("b", [SHUN])])
        before = own_terms(book, work)
        told = own_terms(book, work)
        told[2][0].clear()
        told[2].clear()
        self.alike(own_terms(book, work), before)
        work = flat([("a", [OPEN])])
        own_terms(book, work)[1].clear()
        self.alike(own_terms(book, work)[1], {"a": OPEN})
        work = flat([("a", [SAME])])
        own_terms(book, work)[2].clear()
        self.alike(own_terms(book, work), ("stopped", "a", [(SAME, ("same",))]))
        self.assertEqual(show_book(book), show_book(sample_book()))


class Chains(Refusing):
    """Point 84."""

    def setUp(self):
        licences = [licence(("l", k), 31, 2 ** k) for k in range(4)] + [licence(("b", k), 31, 0, 2 ** k) for k in range(4)]
        licences += [licence(SAME, 31, 15, same=True), licence(SHUT, 0, 15), licence(NONE, 31)]
        self.book = Book(["a", "b", "c", "d"], [], licences)
        self.work = flat([("pa", [("l", 0), SAME]), ("pb", [("b", 0), ("l", 1)]), ("pc", [("b", 1), ("l", 2)]), ("pd", [("b", 2), NONE]),
                          ("pe", [("b", 0), SHUT]), ("pf", [("b", 2), SAME])])
        self.steps = [("pa", ("l", 0)), ("pb", ("l", 1)), ("pc", ("l", 2)), ("pf", ("b", 2))]

    def holds(self, due, chain):
        self.assertIs(chain_holds(self.book, self.work, chain), due, chain)
        words = Words(self.book, self.work)
        self.assertEqual(words.is_chain(chain), due)

    def test_chains(self):
        # Of pa and pe there is one pick alone, so they are forced by whatever stands ahead.
        self.holds(True, [("pa", ("l", 0)), ("pe", ("b", 0))])
        self.holds(True, [("pe", ("b", 0)), ("pa", ("l", 0))])
        self.holds(True, self.steps + [("pe", ("b", 0))])
        self.holds(True, [("pc", ("l", 2)), ("pf", ("b", 2))])
        self.holds(True, [("pb", ("b", 0)), ("pa", ("l", 0))])

    def test_the_last_one_clashes_with_the_first(self):
        self.holds(False, self.steps)
        self.holds(False, self.steps[:3])
        self.holds(False, [("pa", ("l", 0)), ("pf", ("b", 2))])
        self.holds(True, self.steps[2:])

    def test_each_is_forced_by_the_one_ahead(self):
        self.holds(False, [self.steps[0], self.steps[2], ("pe", ("b", 0)), ("pa", ("l", 0))])
        # Of pb both can be had, and the other one doesn't clash with the one ahead.
        self.holds(False, [("pa", ("l", 0)), ("pb", ("b", 0))])
        self.holds(False, [("pc", ("l", 2)), ("pd", ("b", 2))])
        self.holds(False, [("pf", ("b", 2)), ("pc", ("l", 2))])
        self.holds(False, self.steps[:1] + self.steps[2:] + [("pe", ("b", 0))])

    def test_one_pick_is_no_chain(self):
        for pick in self.steps:
            self.holds(False, [pick])
        self.holds(False, [])

    def test_a_pick_may_stand_several_times(self):
        pair = [("pa", ("l", 0)), ("pe", ("b", 0))]
        self.holds(True, pair * 20)
        self.holds(False, pair * 20 + pair[:1])
        self.holds(True, [pair[0]] * 70 + [pair[1]])
        self.holds(False, [("pa", ("l", 0)), ("pb", ("l", 1)), ("pb", ("l", 1)), ("pe", ("b", 0))])

    def test_picks_that_cannot_be_had(self):
        book = Book(["a"], [], [licence(("l", 0), 31, 1), licence(("b", 0), 31, 0, 1), licence(SAME, 31, 1, same=True),
                                licence(SHUT, 0, 1)])
        work = flat([("pa", [("b", 0)]), ("pb", [SAME, SHUT]), ("pc", [("l", 0)])])
        self.assertIs(chain_holds(book, work, [("pa", ("b", 0)), ("pc", ("l", 0))]), True)
        for key in (SAME, SHUT):
            self.assertEqual(clash_at(book, work, ("pa", ("b", 0)), ("pb", key)), 0)
            self.assertIs(chain_holds(book, work, [("pa", ("b", 0)), ("pb", key)]), False)
            self.assertIs(chain_holds(book, work, [("pb", key), ("pa", ("b", 0))]), False)
            self.assertIs(chain_holds(book, work, [("pa", ("b", 0)), ("pb", key), ("pc", ("l", 0))]), False)

    def test_any_thing(self):
        good = [("pa", ("l", 0)), ("pe", ("b", 0))]
        self.assertIs(chain_holds(self.book, self.work, good[0]), False)
        for thing in ODD_THINGS + [tuple(good), dict(good), "pa", self.work, self.book]:
            self.assertIs(chain_holds(self.book, self.work, thing), False)
            for place in (0, 1, 2):
                self.assertIs(chain_holds(self.book, self.work, good[:place] + [thing] + good[place:]), False)
        for pick in good:
            for thing in NO_NAMES + ["top", pick[0].upper()]:
                changed = [(thing, pick[1]) if row == pick else row for row in good]
                self.assertIs(chain_holds(self.book, self.work, changed), False)
            for thing in NO_KEYS + ["l.0", ["l", 0], ("l", False), ("b", False), NONE, ("l", 3), (pick[1],)]:
                changed = [(pick[0], thing) if row == pick else row for row in good]
                self.assertIs(chain_holds(self.book, self.work, changed), False)
            for thing in (list(pick), pick + (1,), pick[:1], (pick,), {pick: True}):
                changed = [thing if row == pick else row for row in good]
                self.assertIs(chain_holds(self.book, self.work, changed), False)
        self.assertIs(chain_holds(self.book, self.work, good), True)

    def test_what_is_handed_in_stays(self):
        chain = self.steps + [("pe", ("b", 0))]
        kept = list(chain)
        self.holds(True, chain)
        self.alike(chain, kept)

    def test_by_the_words_of_the_document(self):
        chance = random.Random(89)
        seen = {True: 0, False: 0}
        for turn in range(60):
            book = clashing_book(chance, 6, 2)
            work = any_work(chance, book.all_keys(), 5)
            words = Words(book, work)
            picks = [(name, offer) for name, offers, closeness in words.rows for offer in offers]
            for many in (1, 2, 3):
                for chain in itertools.product(picks, repeat=many):
                    if many < 3 or chance.random() < 0.1:
                        due = words.is_chain(list(chain))
                        seen[due] += 1
                        self.assertIs(chain_holds(book, work, list(chain)), due)
        self.assertGreater(min(seen.values()), 50)


class Unknown(Refusing):
    """Point 86."""

    def test_refused_ahead_of_all_else(self):
        work = Part("a", [SHUT], [("called", Part("b", [NONE, LOST])), ("called", Part("c", [GONE]))])
        book = sample_book()
        asks = [lambda: usable(book, work), lambda: own_terms(book, work)]
        asks += [lambda: clash_at(book, work, ("x", NONE), ("c", GONE)), lambda: clash_at(book, work, ("c", GONE), ("a", SHUT)),
                 lambda: clash_at(book, work, ("a", GONE), ("y", None))]
        for ask in asks:
            self.refused(NoKey, LOST, ask)
        for thing in ODD_THINGS + [[("a", SHUT)]]:
            self.refused(NoKey, LOST, lambda: chain_holds(book, work, thing))


if __name__ == "__main__":
    unittest.main()
