"""Points 91 to 94, and 6 and 51 to 54 where they speak of them: what days change."""

import random
import unittest

from grantweave.book import Book
from grantweave.booktext import show_book
from grantweave.days import need_days, still, stops_on, told_on
from grantweave.errors import NoDay, NoKey
from grantweave.whole import stops, told_keys
from grantweave.works import Part
from tests.helping import (NO_KEYS, ODD_THINGS, Refusing, any_work, dated_book, days_for, due_fault, in_reading_order,
                           licence)

FREE, SHARE, OLD, BRIEF, SHUT = ("free", 1), ("share", 1), ("old", 1), ("brief", 1), ("shut", 1)
GONE, LOST = ("gone", 1), ("lost", 2)
NO_DAYS = [thing for thing in ODD_THINGS if thing is True or thing is False or thing not in (0, 1)]
NO_DAYS += [10000, "5", [5], (5,), {5: 5}]


def sample_book():
    """Old is offered from 10 to 20 and lasts; brief is offered from 10 to 20 and ends; both else are as free."""
    return Book(["open"], ["list"], [
        licence(FREE, lets=31, reach=3), licence(SHARE, lets=31, strings=1, reach=2),
        licence(OLD, lets=31, reach=3, first=10, last=20), licence(BRIEF, lets=31, reach=3, first=10, last=20, lasting=False),
        licence(SHUT, lets=1, reach=3, first=10, last=20, lasting=False)])


def sample_work():
    core = Part("core", [OLD, BRIEF], [("called", Part("clock", [SHUT]))])
    return Part("app", [], [("joined", core), ("beside", Part("art", [SHARE, FREE]))])


DAYS = {"core": 10, "clock": 15, "art": 0}


def unknown_work():
    return Part("app", [FREE], [("called", Part("core", [FREE, LOST])), ("called", Part("art", [GONE]))])


class Still(Refusing):
    """Point 91."""

    def test_at_both_bounds(self):
        lasting, ending = licence(first=10, last=20), licence(first=10, last=20, lasting=False)
        for taken in range(8, 23):
            for day in range(taken, 24):
                self.assertIs(still(lasting, taken, day), 10 <= taken <= 20)
                self.assertIs(still(ending, taken, day), 10 <= taken <= 20 and day <= 20)

    def test_the_first_and_the_last_of_all_days(self):
        for lasting in (True, False):
            one = licence(lasting=lasting)
            self.assertIs(still(one, 0, 0), True)
            self.assertIs(still(one, 0, 9999), True)
            self.assertIs(still(one, 9999, 9999), True)
            first = licence(first=0, last=0, lasting=lasting)
            self.assertIs(still(first, 0, 0), True)
            self.assertIs(still(first, 0, 1), lasting)
            self.assertIs(still(first, 1, 1), False)

    def test_what_is_no_day(self):
        for thing in NO_DAYS:
            for day in (5, None, 10000, True):
                self.refused(NoDay, thing, lambda: still(licence(), thing, day))
            self.refused(NoDay, thing, lambda: still(licence(), 5, thing))

    def test_taken_above_the_day(self):
        for taken, day in ((1, 0), (21, 20), (9999, 9998), (9999, 0)):
            self.refused(NoDay, taken, lambda: still(licence(first=10, last=20), taken, day))


class Needed(Refusing):
    """Point 92; all that asks so is refused so."""

    def asks(self, work, taken, day):
        book = sample_book()
        return [lambda: need_days(book, work, taken, day), lambda: told_on(book, work, taken, day),
                lambda: stops_on(book, work, taken, day, FREE)]

    def all_refused(self, held, work, taken, day, error=NoDay):
        for ask in self.asks(work, taken, day):
            self.refused(error, held, ask)

    def test_days_that_are_let_be(self):
        for taken in (DAYS, dict(DAYS, app="x", other=None), dict(DAYS, core=20, clock=0)):
            for day in (20, 21, 9999):
                self.assertIsNone(need_days(sample_book(), sample_work(), taken, day))
        self.assertIsNone(need_days(sample_book(), sample_work(), {"core": 0, "clock": 0, "art": 0}, 0))
        self.assertIsNone(need_days(sample_book(), sample_work(), {"core": 9999, "clock": 9999, "art": 9999}, 9999))
        self.assertIsNone(need_days(sample_book(), Part("a"), {}, 0))

    def test_what_else_is_in_the_dict_is_not_looked_at(self):
        odd = {5: [], None: {}, ("core",): "x", True: 10000, "app": None, "Core": -1}
        self.assertIsNone(need_days(sample_book(), sample_work(), dict(odd, **DAYS), 15))

    def test_an_unknown_offer_first(self):
        for taken in (None, {}, DAYS):
            for day in (5, None, True):
                self.all_refused(LOST, unknown_work(), taken, day, NoKey)

    def test_then_the_day(self):
        for thing in NO_DAYS:
            for taken in (None, {}, {"core": 9999}, DAYS):
                self.all_refused(thing, sample_work(), taken, thing)

    def test_then_what_is_no_dict(self):
        for thing in ODD_THINGS + [list(DAYS.items()), tuple(DAYS), "core", sample_work()]:
            if not isinstance(thing, dict):
                self.all_refused(thing, sample_work(), thing, 15)
                self.all_refused(thing, Part("a"), thing, 15)

    def test_then_part_by_part(self):
        self.all_refused("core", sample_work(), {}, 15)
        self.all_refused("core", sample_work(), {"clock": None, "art": 16}, 15)
        self.all_refused("clock", sample_work(), {"core": 10}, 15)
        self.all_refused("art", sample_work(), {"core": 10, "clock": 10}, 15)
        for thing in NO_DAYS + [16, 9999]:
            self.all_refused(thing, sample_work(), {"core": thing}, 15)
            self.all_refused(thing, sample_work(), {"core": 15, "clock": thing, "art": "x"}, 15)
            self.all_refused(thing, sample_work(), {"art": thing, "clock": 0, "core": 0}, 15)

    def test_a_book_without_licences(self):
        book = Book([], [], [])
        self.alike(told_on(book, Part("a"), {}, 15), [])
        self.refused(NoKey, FREE, lambda: told_on(book, Part("a", [FREE]), None, None))
        self.refused(NoDay, None, lambda: told_on(book, Part("a"), {}, None))
        self.refused(NoDay, None, lambda: told_on(book, Part("a"), None, 15))

    def test_taken_on_the_day_itself(self):
        self.assertIsNone(need_days(sample_book(), sample_work(), {"core": 15, "clock": 15, "art": 15}, 15))
        self.all_refused(15, sample_work(), {"core": 14, "clock": 15, "art": 0}, 14)

    def test_the_key_ahead_of_all(self):
        for thing in NO_KEYS:
            for work in (sample_work(), unknown_work()):
                for taken, day in ((DAYS, 15), (None, 15), (DAYS, None), ({}, 10000)):
                    self.refused(NoKey, thing, lambda: stops_on(sample_book(), work, taken, day, thing))


class Stopping(Refusing):
    """Points 93 and 94."""

    def test_a_whole_work(self):
        book, work = sample_book(), sample_work()
        for day in (15, 20):
            self.alike(stops_on(book, work, DAYS, day, FREE), [])
            self.alike(told_on(book, work, DAYS, day), [FREE, SHARE, OLD, BRIEF, SHUT])
        for day in (21, 9999):
            self.alike(stops_on(book, work, DAYS, day, SHARE), [("clock", [(SHUT, ("ended", 20))])])
            self.alike(told_on(book, work, DAYS, day), [])

    def test_taken_ahead_of_ended_ahead_of_the_rest(self):
        work = Part("a", [BRIEF, OLD])
        self.alike(stops_on(sample_book(), work, {"a": 9}, 25, FREE), [("a", [(BRIEF, ("taken", 9)), (OLD, ("taken", 9))])])
        self.alike(stops_on(sample_book(), work, {"a": 21}, 25, FREE), [("a", [(BRIEF, ("taken", 21)), (OLD, ("taken", 21))])])
        work = Part("a", [SHUT])
        self.alike(stops_on(sample_book(), work, {"a": 10}, 20, FREE), [("a", [(SHUT, ("deed", 1))])])
        self.alike(stops_on(sample_book(), work, {"a": 10}, 21, FREE), [("a", [(SHUT, ("ended", 20))])])
        self.alike(stops_on(sample_book(), work, {"a": 9}, 21, FREE), [("a", [(SHUT, ("taken", 9))])])

    def test_each_offer_of_a_part_by_itself(self):
        work = Part("a", [BRIEF, SHARE])
        self.alike(stops_on(sample_book(), work, {"a": 12}, 20, FREE), [])
        self.alike(stops_on(sample_book(), work, {"a": 12}, 21, FREE), [("a", [(BRIEF, ("ended", 20)), (SHARE, ("string", 0))])])
        self.alike(stops_on(sample_book(), work, {"a": 12}, 21, SHARE), [])
        work = Part("a", [SHARE, BRIEF])
        self.alike(stops_on(sample_book(), work, {"a": 12}, 21, FREE), [("a", [(SHARE, ("string", 0)), (BRIEF, ("ended", 20))])])

    def test_a_part_all_of_whose_offers_are_gone_stops_every_key(self):
        work = Part("a", None, [("called", Part("b", [BRIEF]))])
        self.alike(told_on(sample_book(), work, {"b": 10}, 20), sample_book().all_keys())
        self.alike(told_on(sample_book(), work, {"b": 10}, 21), [])
        self.alike(told_on(sample_book(), work, {"b": 9}, 20), [])

    def test_the_key_itself_may_be_of_other_days(self):
        work = Part("a", [FREE])
        self.assertIn(BRIEF, told_on(sample_book(), work, {"a": 0}, 5))
        self.assertIn(BRIEF, told_on(sample_book(), work, {"a": 0}, 50))

    def test_in_reading_order_and_in_the_books_order(self):
        work = Part("z", [BRIEF], [("called", Part("m", [BRIEF])), ("called", Part("b", [OLD]))])
        taken = {"b": 9, "m": 15, "z": 11}
        self.alike(stops_on(sample_book(), work, taken, 30, OLD), [
            ("z", [(BRIEF, ("ended", 20))]), ("m", [(BRIEF, ("ended", 20))]), ("b", [(OLD, ("taken", 9))])])
        keys = sample_book().all_keys()
        turned = Book(["open"], ["list"], [sample_book().licence(key) for key in keys[::-1]])
        self.alike(told_on(turned, sample_work(), DAYS, 15), keys[::-1])

    def test_by_the_words_of_the_document(self):
        chance = random.Random(93)
        seen = set()
        for turn in range(60):
            book = dated_book(chance, chance.randrange(2, 13))
            work = any_work(chance, book.all_keys(), chance.randrange(1, 16))
            day = chance.randrange(0, 13)
            taken = days_for(chance, work, day)
            told = []
            for key in book.all_keys():
                due = []
                for name, offers, closeness in in_reading_order(work.told()):
                    faults = []
                    for offer in offers:
                        one = book.licence(offer)
                        fault = due_fault(one, closeness, book.licence(key))
                        if not one.lasting and one.last < day:
                            fault = ("ended", one.last)
                        if taken[name] < one.first or taken[name] > one.last:
                            fault = ("taken", taken[name])
                        faults.append((offer, fault))
                        seen.add(None if fault is None else fault[0])
                        self.assertIs(still(one, taken[name], day), fault is None or fault[0] not in ("taken", "ended"))
                    if offers and None not in [fault for offer, fault in faults]:
                        due.append((name, faults))
                self.alike(stops_on(book, work, taken, day, key), due)
                if not due:
                    told.append(key)
            self.alike(told_on(book, work, taken, day), told)
        self.assertLessEqual({None, "taken", "ended", "deed", "lets", "string"}, seen)

    def test_a_later_day_adds_none(self):
        chance = random.Random(94)
        lost = 0
        for turn in range(60):
            book = dated_book(chance, 8)
            work = any_work(chance, book.all_keys(), chance.randrange(1, 5))
            taken = days_for(chance, work, 5)
            rows = [told_on(book, work, taken, day) for day in range(5, 14)]
            self.assertLessEqual(set(rows[0]), set(told_keys(book, work)))
            for earlier, later in zip(rows, rows[1:]):
                self.assertLessEqual(set(later), set(earlier))
                lost += len(earlier) - len(later)
        self.assertGreater(lost, 10)

    def test_lasting_offers_that_were_taken_in_time(self):
        chance = random.Random(95)
        for turn in range(40):
            book = dated_book(chance, 8, True)
            work = any_work(chance, book.all_keys(), 4)
            taken = {name: 5 for name in work.all_names()}
            for day in (5, 10, 9999):
                self.alike(told_on(book, work, taken, day), told_keys(book, work))
                for key in book.all_keys():
                    self.alike(stops_on(book, work, taken, day, key), stops(book, work, key))

    def test_what_is_handed_in_stays_and_what_is_told_is_the_askers_own(self):
        book, work, taken = sample_book(), sample_work(), dict(DAYS)
        before = stops_on(book, work, taken, 30, FREE)
        told = stops_on(book, work, taken, 30, FREE)
        told[0][1].clear()
        told.clear()
        self.alike(stops_on(book, work, taken, 30, FREE), before)
        told_on(book, work, taken, 15).clear()
        self.alike(told_on(book, work, taken, 15), book.all_keys())
        self.alike(taken, DAYS)
        self.assertEqual((show_book(book), work.told()), (show_book(sample_book()), sample_work().told()))


if __name__ == "__main__":
    unittest.main()
