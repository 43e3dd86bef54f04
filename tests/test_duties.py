"""Points 61 to 64, and 6 where it speaks of them: the duties of offers and choices, and the least choice."""

import itertools
import random
import unittest

from grantweave.book import Book
from grantweave.booktext import show_book
from grantweave.duties import due_rows, duties_of, least_choice
from grantweave.errors import NoChoice, NoKey, NoPart, Stopped
from grantweave.whole import choice_fits, stops, told_keys
from grantweave.works import Part
from tests.helping import (JOINS, NO_KEYS, NO_NAMES, ODD_THINGS, Refusing, any_book, any_work, from_told,
                           in_reading_order, licence)

DUTIES = ["list", "copy", "quote", "mail"]
FREE, FREER, SHARE, MILD, SHUT = ("free", 1), ("free", 2), ("share", 1), ("mild", 1), ("shut", 1)
GONE, LOST = ("gone", 1), ("lost", 2)


def sample_book():
    """All but shut.1 let all; what they ask is: free.1 little, free.2 more, share.1 most, mild.1 as many as free.2."""
    return Book(["open"], DUTIES, [
        licence(FREE, lets=31, reach=3, asks=[0, 1, 1, 9]),
        licence(FREER, lets=31, reach=3, asks=[4, 4, 6, 6]),
        licence(SHARE, lets=31, strings=1, reach=2, asks=[0, 3, 7, 15]),
        licence(MILD, lets=31, reach=3, asks=[2, 2, 3, 11]),
        licence(SHUT, lets=1, reach=3),
    ])


def sample_work():
    """Closeness: app 3, core 2, clock 0, art 1, base 3."""
    core = Part("core", [SHARE, FREER], [("called", Part("clock", [FREER, FREE]))])
    return Part("app", [], [("joined", core), ("beside", Part("art", [MILD, FREE])), ("changed", Part("base", [FREE, FREER]))])


def one_beneath(join, offers):
    return Part("top", None, [(join, Part("it", offers))])


def asked(book, offer, closeness):
    return book.licence(offer).told()[6][closeness]


class OfOffers(Refusing):
    """Point 61."""

    def test_each_offer_at_each_closeness(self):
        due = {FREE: [[], ["list"], ["list"], ["list", "mail"]],
               FREER: [["quote"], ["quote"], ["copy", "quote"], ["copy", "quote"]],
               SHARE: [[], ["list", "copy"], ["list", "copy", "quote"], DUTIES],
               MILD: [["copy"], ["copy"], ["list", "copy"], ["list", "copy", "mail"]],
               SHUT: [[], [], [], []]}
        for offer, rows in due.items():
            for closeness in range(4):
                work = one_beneath(JOINS[closeness], [offer])
                self.alike(duties_of(sample_book(), work, "it", offer), rows[closeness])
            self.alike(duties_of(sample_book(), Part("it", [offer]), "it", offer), rows[3])

    def test_the_least_closeness_on_the_row_counts(self):
        work = Part("a", None, [("called", Part("b", None, [("changed", Part("c", [SHARE]))]))])
        self.alike(duties_of(sample_book(), work, "c", SHARE), [])
        self.alike(duties_of(sample_book(), work.at("b"), "c", SHARE), DUTIES)

    def test_each_of_two_offers(self):
        work = sample_work()
        self.alike(duties_of(sample_book(), work, "core", SHARE), ["list", "copy", "quote"])
        self.alike(duties_of(sample_book(), work, "core", FREER), ["copy", "quote"])
        self.alike(duties_of(sample_book(), work, "art", MILD), ["copy"])

    def test_every_mask(self):
        names = ["f", "e", "d", "c", "b", "a"]
        for mask in range(64):
            book = Book([], names, [licence(FREE, asks=[0, 0, mask, mask])])
            due = [names[bit] for bit in range(6) if mask & 2 ** bit]
            self.alike(duties_of(book, one_beneath("joined", [FREE]), "it", FREE), due)
            self.alike(duties_of(book, one_beneath("beside", [FREE]), "it", FREE), [])

    def test_what_is_no_name(self):
        for thing in NO_NAMES:
            for offer in (FREE, GONE, None, [], ("free", True)):
                self.refused(NoPart, thing, lambda: duties_of(sample_book(), sample_work(), thing, offer))

    def test_what_is_none_of_the_parts_offers(self):
        work = sample_work()
        for thing in ODD_THINGS + [GONE, SHUT, "share.1", ["share", 1], ("share", True), ("free", True), MILD]:
            self.refused(NoKey, thing, lambda: duties_of(sample_book(), work, "core", thing))
            self.refused(NoKey, thing, lambda: duties_of(sample_book(), work, "app", thing))
        self.refused(NoKey, FREE, lambda: duties_of(sample_book(), work, "core", FREE))
        self.refused(NoKey, SHARE, lambda: duties_of(sample_book(), work, "art", SHARE))

    def test_an_offer_that_the_book_lacks(self):
        work = Part("a", [GONE, FREE], [("called", Part("b", [LOST]))])
        self.refused(NoKey, GONE, lambda: duties_of(sample_book(), work, "a", GONE))
        self.refused(NoKey, LOST, lambda: duties_of(sample_book(), work, "a", LOST))
        self.refused(NoKey, LOST, lambda: duties_of(sample_book(), work, "b", LOST))
        self.refused(NoPart, "c", lambda: duties_of(sample_book(), work, "c", LOST))

    def test_offers_that_were_not_asked_of_are_not_looked_at(self):
        work = Part("a", [GONE, FREE], [("called", Part("b", [LOST]))])
        self.alike(duties_of(sample_book(), work, "a", FREE), ["list", "mail"])

    def test_the_list_is_the_askers_own(self):
        book, work = sample_book(), sample_work()
        duties_of(book, work, "core", SHARE).clear()
        self.alike(duties_of(book, work, "core", SHARE), ["list", "copy", "quote"])
        self.assertEqual(book.duty_names(), DUTIES)


class Least(Refusing):
    """Points 62 and 64."""

    def chosen(self, join, offers, key=FREE):
        return least_choice(sample_book(), one_beneath(join, offers), key)["it"]

    def test_a_whole_work(self):
        choice = least_choice(sample_book(), sample_work(), FREE)
        self.assertIs(type(choice), dict)
        self.assertEqual(choice, {"core": FREER, "clock": FREE, "art": FREE, "base": FREER})
        for name in choice:
            self.assertIs(type(name), str)
            self.alike(choice[name], tuple(list(choice[name])))

    def test_a_work_without_offers(self):
        self.alike(least_choice(sample_book(), Part("a", None, [("called", Part("b"))]), SHARE), {})

    def test_the_fewest_duties(self):
        for offers in ([SHARE, FREE], [FREE, SHARE]):
            self.assertEqual(self.chosen("beside", offers), FREE)
        # Three duties of lesser bits are more than one of a greater bit.
        book = Book([], DUTIES, [licence(("a", 1), 15, 0, 0, 3, asks=[7] * 4), licence(("b", 1), 15, 0, 0, 3, asks=[8] * 4)])
        for offers in ([("a", 1), ("b", 1)], [("b", 1), ("a", 1)]):
            self.assertEqual(least_choice(book, Part("x", offers), ("a", 1)), {"x": ("b", 1)})

    def test_the_lesser_mask_of_as_many(self):
        for offers in ([FREE, MILD], [MILD, FREE]):
            self.assertEqual(self.chosen("beside", offers), FREE)
        for offers in ([FREER, MILD], [MILD, FREER]):
            self.assertEqual(self.chosen("joined", offers), MILD)
            self.assertEqual(self.chosen("changed", offers), FREER)
        for offers in ([FREE, FREER], [FREER, FREE]):
            self.assertEqual(self.chosen("changed", offers), FREER)

    def test_the_one_told_first_of_like_masks(self):
        for offers in ([FREE, SHARE], [SHARE, FREE], [SHUT, FREE], [FREE, SHUT]):
            self.assertEqual(self.chosen("called", offers), offers[0])

    def test_only_offers_without_a_fault_are_taken(self):
        self.assertEqual(self.chosen("changed", [SHUT, FREE]), FREE)
        self.assertEqual(self.chosen("beside", [SHUT, SHARE]), SHARE)
        self.assertEqual(self.chosen("joined", [FREE, SHARE], SHARE), FREE)
        book = Book(["s"], ["d"], [licence(("a", 1), 15, 1, 0, 2), licence(("b", 1), 15, 0, 0, 2, asks=[1] * 4)])
        for offers in ([("a", 1), ("b", 1)], [("b", 1), ("a", 1)]):
            self.assertEqual(least_choice(book, Part("x", offers), ("b", 1)), {"x": ("b", 1)})
            self.assertEqual(least_choice(book, Part("x", offers), ("a", 1)), {"x": ("a", 1)})

    def test_the_first_part_that_stops_the_key(self):
        work = Part("a", None, [("called", Part("b", [SHUT])), ("joined", Part("c", [SHARE], [("called", Part("d", [SHUT])),
                    ("changed", Part("e", [SHUT, SHARE]))])), ("beside", Part("f", [SHUT]))])
        self.refused(Stopped, "c", lambda: least_choice(sample_book(), work, FREE))
        self.refused(Stopped, "f", lambda: least_choice(sample_book(), work, SHARE))
        self.refused(Stopped, "a", lambda: least_choice(sample_book(), Part("a", [SHUT]), SHUT))

    def test_refused_as_told_of_the_key_and_the_work(self):
        stopped = Part("a", [SHUT])
        unknown = Part("a", [SHUT], [("called", Part("b", [FREE, LOST])), ("called", Part("c", [GONE]))])
        for thing in NO_KEYS:
            for work in (stopped, unknown, sample_work()):
                self.refused(NoKey, thing, lambda: least_choice(sample_book(), work, thing))
        self.refused(NoKey, LOST, lambda: least_choice(sample_book(), unknown, FREE))

    def test_the_dict_is_the_askers_own(self):
        book, work = sample_book(), sample_work()
        before = least_choice(book, work, FREE)
        least_choice(book, work, FREE).clear()
        self.alike(least_choice(book, work, FREE), before)
        self.assertEqual((show_book(book), work.told()), (show_book(sample_book()), sample_work().told()))

    def test_no_choice_that_fits_has_fewer_for_any_part(self):
        chance = random.Random(64)
        seen = 0
        for turn in range(60):
            book = any_book(chance, 6)
            work = any_work(chance, book.all_keys(), 5)
            rows = [row for row in in_reading_order(work.told()) if row[1]]
            for key in book.all_keys():
                if key not in told_keys(book, work):
                    self.refused(Stopped, stops(book, work, key)[0][0], lambda: least_choice(book, work, key))
                    continue
                least = least_choice(book, work, key)
                self.assertTrue(choice_fits(book, work, key, least))
                for picks in itertools.product(*[row[1] for row in rows]):
                    choice = {row[0]: pick for row, pick in zip(rows, picks)}
                    if choice_fits(book, work, key, choice):
                        seen += 1
                        for name, offers, closeness in rows:
                            mine, theirs = asked(book, least[name], closeness), asked(book, choice[name], closeness)
                            mine = (bin(mine).count("1"), mine, offers.index(least[name]))
                            self.assertLessEqual(mine, (bin(theirs).count("1"), theirs, offers.index(choice[name])))
        self.assertGreater(seen, 100)

    def test_a_closer_join_asks_all_that_was_asked(self):
        chance = random.Random(65)
        for turn in range(60):
            book = any_book(chance, 6)
            offers = chance.sample(book.all_keys(), 2)
            for offer in offers:
                rows = [duties_of(book, one_beneath(join, offers), "it", offer) for join in JOINS]
                for looser, closer in zip(rows, rows[1:]):
                    self.assertLessEqual(set(looser), set(closer))


class Due(Refusing):
    """Point 63."""

    def setUp(self):
        self.book, self.work = sample_book(), sample_work()
        self.choice = {"core": SHARE, "clock": FREER, "art": MILD, "base": FREE}

    def test_by_duty_and_then_in_reading_order(self):
        self.alike(due_rows(self.book, self.work, SHARE, self.choice), [
            ("list", "core", SHARE), ("list", "base", FREE),
            ("copy", "core", SHARE), ("copy", "art", MILD),
            ("quote", "core", SHARE), ("quote", "clock", FREER),
            ("mail", "base", FREE)])

    def test_the_order_of_the_choice_makes_no_difference(self):
        due = due_rows(self.book, self.work, SHARE, self.choice)
        for names in itertools.permutations(self.choice):
            self.alike(due_rows(self.book, self.work, SHARE, {name: self.choice[name] for name in names}), due)

    def test_of_the_least_choice(self):
        self.alike(due_rows(self.book, self.work, FREE, least_choice(self.book, self.work, FREE)), [
            ("list", "art", FREE), ("copy", "core", FREER), ("copy", "base", FREER), ("quote", "core", FREER),
            ("quote", "base", FREER)])

    def test_reading_order_is_not_the_order_of_names(self):
        work = Part("z", [FREE], [("changed", Part("m", [FREE], [("changed", Part("y", [FREE]))])), ("changed", Part("b", [FREE]))])
        due = [(duty, name, FREE) for duty in ("list", "mail") for name in "zmyb"]
        self.alike(due_rows(self.book, work, FREE, {name: FREE for name in "bmyz"}), due)

    def test_a_work_without_offers(self):
        work = Part("a", None, [("changed", Part("b"))])
        for key in self.book.all_keys():
            self.alike(due_rows(self.book, work, key, {}), [])
            self.refused(NoChoice, {"a": FREE}, lambda: due_rows(self.book, work, key, {"a": FREE}))

    def test_what_is_no_choice_that_fits(self):
        changed = [dict(self.choice, core=thing) for thing in (("share", True), None, FREE, "share.1", [], ["share", 1])]
        less = dict(self.choice)
        del less["clock"]
        more = dict(self.choice, app=FREE)
        for thing in ODD_THINGS + changed + [less, more, list(self.choice.items()), self.work]:
            self.refused(NoChoice, thing, lambda: due_rows(self.book, self.work, SHARE, thing))
        self.refused(NoChoice, self.choice, lambda: due_rows(self.book, self.work, FREE, self.choice))

    def test_refused_as_told_of_the_key_and_the_work_first(self):
        unknown = Part("a", [SHUT], [("called", Part("b", [FREE, LOST])), ("called", Part("c", [GONE]))])
        for thing in NO_KEYS:
            for choice in (self.choice, None, {}):
                self.refused(NoKey, thing, lambda: due_rows(self.book, self.work, thing, choice))
                self.refused(NoKey, thing, lambda: due_rows(self.book, unknown, thing, choice))
        for choice in (None, {}, {"a": SHUT, "b": FREE, "c": GONE}):
            self.refused(NoKey, LOST, lambda: due_rows(self.book, unknown, FREE, choice))

    def test_what_is_handed_in_stays_and_what_is_told_is_the_askers_own(self):
        kept = dict(self.choice)
        before = list(due_rows(self.book, self.work, SHARE, self.choice))
        due_rows(self.book, self.work, SHARE, self.choice).clear()
        self.alike(due_rows(self.book, self.work, SHARE, self.choice), before)
        self.alike(self.choice, kept)
        self.assertEqual((show_book(self.book), self.work.told()), (show_book(sample_book()), sample_work().told()))

    def test_by_the_words_of_the_document(self):
        chance = random.Random(63)
        for turn in range(100):
            book = any_book(chance, chance.randrange(2, 13))
            work = any_work(chance, book.all_keys(), chance.randrange(1, 20))
            work = from_told(work.told())
            for key in told_keys(book, work):
                choice = least_choice(book, work, key)
                due = []
                for bit, duty in enumerate(book.duty_names()):
                    for name, offers, closeness in in_reading_order(work.told()):
                        if offers and asked(book, choice[name], closeness) // 2 ** bit % 2 == 1:
                            due.append((duty, name, choice[name]))
                self.alike(due_rows(book, work, key, choice), due)
                for name in choice:
                    mine = [row[0] for row in due if row[1] == name]
                    self.alike(duties_of(book, work, name, choice[name]), mine)


if __name__ == "__main__":
    unittest.main()
