"""Points 95 and 96, and 6 where it speaks of them: an office, its givings, and those that are ended."""

import random
import unittest

from grantweave.book import Book
from grantweave.days import stops_on, told_on
from grantweave.errors import Doubled, NoDay, NoKey, NoWord, Stopped
from grantweave.office import Office
from grantweave.works import Part
from tests.helping import NO_KEYS, ODD_THINGS, Refusing, any_work, dated_book, days_for, licence

FREE, SHARE, BRIEF = ("free", 1), ("share", 1), ("brief", 1)
GONE, LOST = ("gone", 1), ("lost", 2)
NO_DAYS = [True, False, None, -1, 10000, "5", [5], (5,), {}]


def sample_book():
    return Book(["open"], ["list"], [
        licence(FREE, lets=31, reach=3), licence(SHARE, lets=31, strings=1, reach=2),
        licence(BRIEF, lets=31, reach=3, first=10, last=20, lasting=False)])


def sample_work():
    return Part("app", [], [("joined", Part("core", [BRIEF])), ("beside", Part("art", [FREE, SHARE]))])


DAYS = {"core": 10, "art": 0}


class GivingOut(Refusing):
    """Point 95."""

    def setUp(self):
        self.office = Office(sample_book())

    def give(self, name="one", work=None, taken=DAYS, key=FREE, day=15):
        return self.office.give_out(name, sample_work() if work is None else work, taken, key, day)

    def refused_and_nothing_changed(self, error, held, *things):
        before = self.office.givings(), self.office.ended(9999)
        self.refused(error, held, lambda: self.give(*things))
        self.alike((self.office.givings(), self.office.ended(9999)), before)

    def test_a_new_office(self):
        self.alike(self.office.givings(), [])
        for day in (0, 9999):
            self.alike(self.office.ended(day), [])

    def test_givings_in_the_order_in_which_they_were_told(self):
        self.assertIsNone(self.give("late", day=20))
        self.assertIsNone(self.give("early", key=SHARE, day=10))
        self.assertIsNone(self.give("mid", Part("a"), {}, BRIEF, 0))
        self.alike(self.office.givings(), [("late", FREE, 20), ("early", SHARE, 10), ("mid", BRIEF, 0)])

    def test_the_name(self):
        for thing in ODD_THINGS + ["One", "one ", "one1", ["one"], ("one",)]:
            for key, taken, day in ((FREE, DAYS, 15), (None, None, None), (FREE, DAYS, 21)):
                self.refused_and_nothing_changed(NoWord, thing, thing, None, taken, key, day)

    def test_a_name_that_a_giving_has(self):
        self.give("one")
        self.give("two", day=16)
        for name in ("one", "two"):
            for key, taken, day in ((FREE, DAYS, 15), (None, None, None), (GONE, {}, 5), (FREE, DAYS, 21)):
                self.refused_and_nothing_changed(Doubled, name, name, None, taken, key, day)

    def test_a_name_of_what_was_refused_may_be_given(self):
        self.refused_and_nothing_changed(Stopped, "core", "one", None, DAYS, FREE, 21)
        self.refused_and_nothing_changed(NoKey, GONE, "one", None, DAYS, GONE, 15)
        self.give("one")
        self.alike(self.office.givings(), [("one", FREE, 15)])

    def test_the_key(self):
        unknown = Part("app", [FREE, LOST])
        for thing in NO_KEYS:
            for work, taken, day in ((None, DAYS, 15), (unknown, None, None), (None, DAYS, 21), (None, {}, 15)):
                self.refused_and_nothing_changed(NoKey, thing, "one", work, taken, thing, day)

    def test_then_as_told_of_days(self):
        unknown = Part("app", [FREE, LOST], [("called", Part("core", [GONE]))])
        for taken, day in ((None, None), ({}, 5), (DAYS, True)):
            self.refused_and_nothing_changed(NoKey, LOST, "one", unknown, taken, FREE, day)
        for thing in NO_DAYS:
            for taken in (None, {}, DAYS):
                self.refused_and_nothing_changed(NoDay, thing, "one", None, taken, FREE, thing)
            self.refused_and_nothing_changed(NoDay, thing, "one", None, {"core": 10, "art": thing}, FREE, 21)
        for thing in ODD_THINGS:
            if not isinstance(thing, dict):
                self.refused_and_nothing_changed(NoDay, thing, "one", None, thing, FREE, 21)
        self.refused_and_nothing_changed(NoDay, "core", "one", None, {}, FREE, 21)
        self.refused_and_nothing_changed(NoDay, "art", "one", None, {"core": 10}, FREE, 21)
        self.refused_and_nothing_changed(NoDay, 16, "one", None, {"core": 16, "art": 16}, FREE, 15)

    def test_then_the_first_part_that_stops_it_on_the_day(self):
        self.refused_and_nothing_changed(Stopped, "core", "one", None, DAYS, FREE, 21)
        self.refused_and_nothing_changed(Stopped, "core", "one", None, {"core": 9, "art": 9}, FREE, 15)
        work = Part("a", None, [("changed", Part("b", [FREE])), ("changed", Part("c", [SHARE])), ("called", Part("d", [BRIEF]))])
        taken = {"b": 0, "c": 0, "d": 0}
        self.refused_and_nothing_changed(Stopped, "c", "one", work, taken, FREE, 5)
        self.refused_and_nothing_changed(Stopped, "d", "one", work, taken, SHARE, 5)

    def test_given_out_just_where_it_is_told(self):
        chance = random.Random(95)
        seen = set()
        for turn in range(60):
            book = dated_book(chance, 8)
            work = any_work(chance, book.all_keys(), 4)
            day = chance.randrange(13)
            taken = days_for(chance, work, day)
            office = Office(book)
            for number, key in enumerate(book.all_keys()):
                name = "n" + "abcdefgh"[number]
                stopping = stops_on(book, work, taken, day, key)
                seen.add(stopping == [])
                if stopping:
                    self.refused(Stopped, stopping[0][0], lambda: office.give_out(name, work, taken, key, day))
                else:
                    office.give_out(name, work, taken, key, day)
            self.assertEqual([row[1] for row in office.givings()], told_on(book, work, taken, day))
        self.assertEqual(len(seen), 2)


class Ended(Refusing):
    """Point 96."""

    def test_of_one_giving(self):
        office = Office(sample_book())
        office.give_out("one", sample_work(), DAYS, FREE, 15)
        for day, due in ((0, []), (14, []), (15, []), (20, []), (21, ["one"]), (9999, ["one"])):
            self.alike(office.ended(day), due)
            self.alike(office.givings(), [("one", FREE, 15)])

    def test_only_givings_of_the_day_or_earlier(self):
        book = Book([], [], [licence(FREE, 31, reach=3), licence(BRIEF, 31, reach=3, last=20, lasting=False)])
        office = Office(book)
        office.give_out("never", Part("a", [FREE]), {"a": 0}, FREE, 5)
        office.give_out("late", Part("a", [BRIEF]), {"a": 20}, FREE, 20)
        office.give_out("soon", Part("a", [BRIEF]), {"a": 0}, FREE, 0)
        self.alike(office.ended(20), [])
        self.alike(office.ended(21), ["late", "soon"])
        self.alike(office.givings(), [("never", FREE, 5), ("late", FREE, 20), ("soon", FREE, 0)])

    def test_a_giving_of_a_later_day_is_not_ended_ahead_of_it(self):
        # By days of taking that are all above the asked day there would be nothing to tell but a refusal.
        office = Office(sample_book())
        office.give_out("one", sample_work(), {"core": 15, "art": 15}, FREE, 18)
        for day in (0, 10, 14, 15, 17, 18):
            self.alike(office.ended(day), [])

    def test_one_offer_of_two_that_ends(self):
        office = Office(sample_book())
        work = Part("a", [BRIEF, SHARE])
        office.give_out("free", work, {"a": 10}, FREE, 10)
        office.give_out("share", work, {"a": 10}, SHARE, 10)
        self.alike(office.ended(20), [])
        self.alike(office.ended(21), ["free"])

    def test_what_is_no_day(self):
        office = Office(sample_book())
        for thing in ODD_THINGS + NO_DAYS:
            if thing is True or thing is False or thing not in (0, 1):
                self.refused(NoDay, thing, lambda: office.ended(thing))
        office.give_out("one", sample_work(), DAYS, FREE, 15)
        for thing in NO_DAYS:
            self.refused(NoDay, thing, lambda: office.ended(thing))

    def test_an_ended_giving_has_its_name_still(self):
        office = Office(sample_book())
        office.give_out("one", sample_work(), DAYS, FREE, 15)
        self.alike(office.ended(30), ["one"])
        self.refused(Doubled, "one", lambda: office.give_out("one", Part("a"), {}, FREE, 30))
        self.alike(office.givings(), [("one", FREE, 15)])

    def test_in_any_order_of_days(self):
        chance = random.Random(96)
        ended = 0
        for turn in range(30):
            book = dated_book(chance, 8)
            rows = []
            for number in range(12):
                work = any_work(chance, book.all_keys(), 3)
                day = chance.randrange(10)
                taken = days_for(chance, work, day)
                told = told_on(book, work, taken, day)
                if told:
                    rows.append(("n" + "abcdefghijkl"[number], work, taken, chance.choice(told), day))
            office = Office(book)
            for row in rows:
                office.give_out(*row)
            self.alike(office.givings(), [(name, key, day) for name, work, taken, key, day in rows])
            for asked in list(range(14)) + [9999]:
                due = [name for name, work, taken, key, day in rows if day <= asked and stops_on(book, work, taken, asked, key)]
                self.alike(office.ended(asked), due)
                ended += len(due)
        self.assertGreater(ended, 50)


class Kept(Refusing):
    """Point 6."""

    def test_days_that_are_changed_behind_the_givings_back(self):
        office = Office(sample_book())
        taken = dict(DAYS)
        office.give_out("one", sample_work(), taken, FREE, 15)
        before = office.ended(20), office.ended(21)
        for changed in ({"core": 9}, {"core": None}, {"core": 30, "art": "x"}):
            taken.update(changed)
            self.alike((office.ended(20), office.ended(21)), before)
        taken.clear()
        self.alike((office.ended(20), office.ended(21)), before)
        office.give_out("two", Part("a", [BRIEF, FREE]), {"a": 10}, FREE, 11)
        self.alike(office.ended(30), ["one"])

    def test_the_same_dict_for_two_givings(self):
        office = Office(sample_book())
        taken = {"a": 0}
        office.give_out("one", Part("a", [FREE]), taken, FREE, 15)
        taken["a"] = 12
        office.give_out("two", Part("a", [BRIEF]), taken, FREE, 15)
        self.alike(office.ended(21), ["two"])

    def test_works_whose_lists_are_changed_behind_the_givings_back(self):
        offers, beneath = [BRIEF], []
        work = Part("a", offers, beneath)
        office = Office(sample_book())
        office.give_out("one", work, {"a": 10}, FREE, 15)
        offers[0] = FREE
        beneath.append(("called", Part("b", [SHARE])))
        self.alike(office.ended(21), ["one"])
        self.alike(office.ended(20), [])

    def test_the_book_is_kept(self):
        licences = [sample_book().licence(key) for key in sample_book().all_keys()]
        book = Book(["open"], [], licences)
        office = Office(book)
        licences.clear()
        book.all_keys().clear()
        office.give_out("one", sample_work(), DAYS, FREE, 15)
        self.alike(office.ended(21), ["one"])

    def test_lists_that_are_told_are_the_askers_own(self):
        office = Office(sample_book())
        office.give_out("one", sample_work(), DAYS, FREE, 15)
        office.givings().clear()
        office.ended(21).clear()
        self.alike((office.givings(), office.ended(21)), ([("one", FREE, 15)], ["one"]))
        self.alike(DAYS, {"core": 10, "art": 0})

    def test_two_offices_have_nothing_in_common(self):
        book = sample_book()
        one, other = Office(book), Office(book)
        one.give_out("one", sample_work(), DAYS, FREE, 15)
        self.alike((other.givings(), other.ended(30)), ([], []))
        other.give_out("one", Part("a", [FREE]), {"a": 0}, SHARE, 3)
        self.alike((one.givings(), other.givings()), ([("one", FREE, 15)], [("one", SHARE, 3)]))
        self.alike((one.ended(30), other.ended(30)), (["one"], []))

    def test_offices_that_were_made_alike(self):
        for many in range(4):
            offices = [Office(sample_book()), Office(sample_book())]
            for office in offices:
                for number in range(many):
                    office.give_out("n" + "abc"[number], sample_work(), dict(DAYS), FREE, 20 - number)
            self.alike(offices[0].givings(), offices[1].givings())
            self.alike(offices[0].ended(21), offices[1].ended(21))


if __name__ == "__main__":
    unittest.main()
