"""Points 51 to 56, and 4 to 6 where they speak of them: what stops a key, told keys, and choices that fit."""

import itertools
import random
import unittest

from grantweave.book import Book
from grantweave.booktext import show_book
from grantweave.errors import NoKey, NoPart
from grantweave.whole import choice_fits, faults_at, least_told, need_known, stops, told_keys
from grantweave.works import Part
from tests.helping import (JOINS, NO_KEYS, NO_NAMES, ODD_THINGS, Refusing, any_book, any_work, due_fault, from_told,
                           in_reading_order, licence)

FREE, FREER, SHARE, SHARER, MILD, SHUT = (("free", 1), ("free", 2), ("share", 1), ("share", 2), ("mild", 1), ("shut", 1))
GONE, LOST = ("gone", 1), ("lost", 2)


def sample_book(order=1):
    licences = [
        licence(FREE, lets=31, reach=3),
        licence(SHARE, lets=15, strings=1, reach=2, same=True),
        licence(SHARER, lets=15, strings=1, reach=2, same=True),
        licence(MILD, lets=15, bars=1, reach=2),
        licence(SHUT, lets=3, strings=2, reach=1),
        licence(FREER, lets=31, reach=3),
    ]
    return Book(["open", "named"], ["list"], licences[::order])


def sample_work():
    """Closeness: app 3, core 2, clock 0, deep 2, art 1, base 3."""
    core = Part("core", [SHARE], [("called", Part("clock", [SHUT])), ("changed", Part("deep", [MILD, SHARE]))])
    return Part("app", [], [("joined", core), ("beside", Part("art", [SHUT, FREE])), ("changed", Part("base", [FREE]))])


def one_beneath(join, offers):
    return Part("top", None, [(join, Part("it", offers))])


class Known(Refusing):
    """Point 51."""

    def asks(self, book, work, key):
        return [lambda: stops(book, work, key), lambda: choice_fits(book, work, key, {}), lambda: choice_fits(book, work, key, None),
                lambda: faults_at(book, work, work.name, key)]

    def test_all_known(self):
        self.assertIsNone(need_known(sample_book(), sample_work()))
        self.assertIsNone(need_known(Book([], [], []), Part("a")))
        self.assertIsNone(need_known(Book([], [], []), Part("a", [], [("called", Part("b"))])))

    def test_the_first_unknown_offer_in_reading_order(self):
        book = sample_book()
        rows = [
            (Part("a", [GONE]), GONE), (Part("a", [GONE, LOST]), GONE), (Part("a", [FREE, LOST]), LOST),
            (Part("a", [LOST, GONE], [("called", Part("b", [GONE]))]), LOST),
            (Part("a", [FREE], [("called", Part("b", [FREE], [("called", Part("c", [GONE]))])), ("called", Part("d", [LOST]))]), GONE),
            (Part("a", None, [("called", Part("b", [SHUT, LOST])), ("called", Part("d", [GONE]))]), LOST),
        ]
        for work, due in rows:
            for key in book.all_keys():
                for ask in self.asks(book, work, key):
                    self.refused(NoKey, due, ask)
            for ask in (need_known, told_keys, least_told):
                self.refused(NoKey, due, lambda: ask(book, work))

    def test_a_book_without_licences_knows_no_offer(self):
        book = Book([], [], [])
        for ask in (need_known, told_keys, least_told):
            self.refused(NoKey, FREE, lambda: ask(book, Part("a", [FREE])))

    def test_what_is_no_key_of_the_book(self):
        book = sample_book()
        for work in (sample_work(), Part("a"), Part("a", [LOST])):
            for thing in NO_KEYS:
                for ask in self.asks(book, work, thing):
                    self.refused(NoKey, thing, ask)

    def test_what_is_no_name_of_a_part(self):
        book = sample_book()
        for work in (Part("a"), Part("core", [GONE])):
            for thing in NO_NAMES:
                for key in NO_KEYS + [FREE]:
                    self.refused(NoPart, thing, lambda: faults_at(book, work, thing, key))

    def test_names_of_a_part_looked_at_as_a_top(self):
        self.refused(NoPart, "app", lambda: faults_at(sample_book(), sample_work().at("core"), "app", FREE))

    def test_which_comes_first(self):
        book, work = sample_book(), Part("a", [LOST], [("called", Part("b", [FREE]))])
        self.refused(NoPart, "c", lambda: faults_at(book, work, "c", GONE))
        self.refused(NoKey, GONE, lambda: faults_at(book, work, "b", GONE))
        self.refused(NoKey, LOST, lambda: faults_at(book, work, "b", FREE))
        self.refused(NoKey, GONE, lambda: stops(book, work, GONE))
        self.refused(NoKey, LOST, lambda: stops(book, work, FREE))
        self.refused(NoKey, GONE, lambda: choice_fits(book, work, GONE, {}))
        self.refused(NoKey, LOST, lambda: choice_fits(book, work, FREE, {}))


class Faults(Refusing):
    """Points 52 and 53."""

    def test_a_part_without_offers(self):
        for join in JOINS:
            for key in sample_book().all_keys():
                self.alike(faults_at(sample_book(), one_beneath(join, []), "it", key), [])
                self.alike(stops(sample_book(), one_beneath(join, []), key), [])

    def test_one_offer_at_each_closeness(self):
        due = {"called": None, "beside": ("lets", 2), "joined": ("deed", 2), "changed": ("deed", 2)}
        for join in JOINS:
            self.alike(faults_at(sample_book(), one_beneath(join, [SHUT]), "it", FREE), [(SHUT, due[join])])
        due = {"called": None, "beside": None, "joined": ("lets", 4), "changed": ("lets", 4)}
        for join in JOINS:
            self.alike(faults_at(sample_book(), one_beneath(join, [SHARE]), "it", FREE), [(SHARE, due[join])])
            self.alike(faults_at(sample_book(), one_beneath(join, [SHARE]), "it", SHARER), [(SHARE, None)])
            self.alike(faults_at(sample_book(), one_beneath(join, [SHARER]), "it", SHARE),
                       [(SHARER, None if join in ("called", "beside") else ("same",))])

    def test_two_offers_in_their_order(self):
        for offers in ([MILD, SHARE], [SHARE, MILD]):
            work = one_beneath("joined", offers)
            faults = {MILD: ("bar", 0), SHARE: None}
            self.alike(faults_at(sample_book(), work, "it", SHARE), [(key, faults[key]) for key in offers])
            faults = {MILD: None, SHARE: ("string", 0)}
            self.alike(faults_at(sample_book(), work, "it", MILD), [(key, faults[key]) for key in offers])
            faults = {MILD: ("lets", 4), SHARE: ("lets", 4)}
            self.alike(faults_at(sample_book(), work, "it", FREE), [(key, faults[key]) for key in offers])

    def test_the_tops_own_offers_are_changed(self):
        self.alike(faults_at(sample_book(), Part("a", [SHUT, FREE]), "a", SHARE), [(SHUT, ("deed", 2)), (FREE, None)])

    def test_a_whole_work(self):
        book, work = sample_book(), sample_work()
        self.alike(stops(book, work, FREE), [
            ("core", [(SHARE, ("lets", 4))]), ("deep", [(MILD, ("lets", 4)), (SHARE, ("lets", 4))])])
        self.alike(stops(book, work, MILD), [("core", [(SHARE, ("string", 0))])])
        self.alike(stops(book, work, SHARE), [])
        self.alike(stops(book, work, SHARER), [])
        self.alike(stops(book, work, SHUT), [
            ("core", [(SHARE, ("string", 0))]), ("deep", [(MILD, ("bar", 0)), (SHARE, ("string", 0))])])

    def test_a_part_looked_at_as_a_top(self):
        book, core = sample_book(), sample_work().at("core")
        self.alike(stops(book, core, MILD), [("core", [(SHARE, ("string", 0))])])
        self.alike(stops(book, core.at("deep"), MILD), [])
        self.alike(stops(book, core.at("clock"), MILD), [("clock", [(SHUT, ("deed", 2))])])
        self.alike(stops(book, core, SHARE), [])

    def test_by_the_words_of_the_document(self):
        chance = random.Random(52)
        for turn in range(60):
            book = any_book(chance, chance.randrange(2, 13))
            work = any_work(chance, book.all_keys(), chance.randrange(1, 31))
            for key in book.all_keys():
                stopping = []
                for name, offers, closeness in in_reading_order(work.told()):
                    faults = [(offer, due_fault(book.licence(offer), closeness, book.licence(key))) for offer in offers]
                    self.alike(faults_at(book, work, name, key), faults)
                    if offers and None not in [fault for offer, fault in faults]:
                        stopping.append((name, faults))
                self.alike(stops(book, work, key), stopping)

    def test_lists_that_are_told_are_the_askers_own(self):
        book, work = sample_book(), sample_work()
        before = stops(book, work, FREE), faults_at(book, work, "deep", FREE)
        text, told = show_book(book), work.told()
        rows = stops(book, work, FREE)
        rows[0][1].clear()
        rows[1][1].append("x")
        rows.reverse()
        faults_at(book, work, "deep", FREE).clear()
        self.alike((stops(book, work, FREE), faults_at(book, work, "deep", FREE)), before)
        self.assertEqual((show_book(book), work.told()), (text, told))


class Told(Refusing):
    """Point 54."""

    def test_a_whole_work(self):
        self.alike(told_keys(sample_book(), sample_work()), [SHARE, SHARER])
        self.alike(least_told(sample_book(), sample_work()), [SHARE])

    def test_in_the_order_of_the_book(self):
        self.alike(told_keys(sample_book(-1), sample_work()), [SHARER, SHARE])
        self.alike(least_told(sample_book(-1), sample_work()), [SHARE])

    def test_a_work_without_offers(self):
        work = Part("a", None, [("changed", Part("b"))])
        self.alike(told_keys(sample_book(), work), [FREE, SHARE, SHARER, MILD, SHUT, FREER])
        self.alike(told_keys(Book([], [], []), work), [])
        self.alike(least_told(Book([], [], []), work), [])

    def test_two_that_cover_one_another_are_both_among_the_least(self):
        work = Part("a", None, [("changed", Part("b"))])
        self.alike(least_told(sample_book(), work), [FREE, FREER])
        self.alike(least_told(sample_book(-1), work), [FREER, FREE])

    def test_two_that_cover_one_another_and_a_lesser_one(self):
        book = Book(["s"], [], [licence(("a", 1), 15, 1, 0, 1), licence(("b", 1), 15, 0, 0, 1), licence(("a", 2), 15, 1, 0, 1)])
        self.alike(least_told(book, Part("x")), [("b", 1)])
        self.alike(told_keys(book, Part("x")), [("a", 1), ("b", 1), ("a", 2)])
        self.alike(least_told(book, Part("x", [("a", 2)])), [("a", 1), ("a", 2)])

    def test_least_ones_that_do_not_cover_one_another(self):
        book = Book(["s", "t"], [], [licence(("a", 1), 15, 3, 0, 1), licence(("b", 1), 15, 1, 0, 1), licence(("c", 1), 15, 2, 0, 1)])
        self.alike(least_told(book, Part("x")), [("b", 1), ("c", 1)])

    def test_no_key_is_told(self):
        work = Part("a", [SHUT])
        self.alike(told_keys(sample_book(), work), [])
        self.alike(least_told(sample_book(), work), [])

    def test_a_part_looked_at_as_a_top(self):
        core = sample_work().at("core")
        self.alike(told_keys(sample_book(), core), [SHARE, SHARER])
        self.alike(told_keys(sample_book(), core.at("clock")), [])
        self.alike(told_keys(sample_book(), core.at("deep")), [SHARE, SHARER, MILD])
        self.alike(least_told(sample_book(), core.at("deep")), [SHARE, MILD])

    def test_by_the_words_of_the_document(self):
        chance = random.Random(54)
        for turn in range(250):
            book = any_book(chance, chance.randrange(2, 13))
            work = any_work(chance, book.all_keys(), chance.randrange(1, 9))
            told = [key for key in book.all_keys() if stops(book, work, key) == []]
            self.alike(told_keys(book, work), told)
            least = []
            for key in told:
                covered = [other for other in told if key in book.coverers(other)]
                if all(other in book.coverers(key) for other in covered):
                    least.append(key)
            self.alike(least_told(book, work), least)
            for key in told:
                self.assertTrue(any(key in book.coverers(other) for other in least))

    def test_lists_that_are_told_are_the_askers_own(self):
        book, work = sample_book(), sample_work()
        for ask in (told_keys, least_told):
            before = list(ask(book, work))
            ask(book, work).clear()
            ask(book, work).append(5)
            self.alike(ask(book, work), before)
        self.assertEqual((show_book(book), work.told()), (show_book(sample_book()), sample_work().told()))


class Choices(Refusing):
    """Point 55."""

    def setUp(self):
        self.book, self.work = sample_book(), sample_work()
        self.good = {"core": SHARE, "clock": SHUT, "deep": SHARE, "art": FREE, "base": FREE}

    def fits(self, due, choice, key=SHARE):
        self.assertIs(choice_fits(self.book, self.work, key, choice), due, choice)

    def changed(self, name, thing):
        return dict(self.good, **{name: thing})

    def test_choices_that_fit(self):
        self.fits(True, self.good)
        self.fits(True, self.good, SHARER)
        self.fits(True, dict(reversed(self.good.items())))
        self.fits(True, {name: tuple(list(key)) for name, key in self.good.items()})

    def test_an_offer_with_a_fault(self):
        self.fits(False, self.changed("deep", MILD))
        self.fits(False, self.changed("art", SHUT))
        self.fits(False, self.good, MILD)
        self.fits(False, self.good, FREE)

    def test_a_name_missing_or_too_many(self):
        for name in self.good:
            left = dict(self.good)
            del left[name]
            self.fits(False, left)
            for odd in ("app", "x", None, 5, True, (), (name,)):
                self.fits(False, {**left, odd: self.good[name]})
                self.fits(False, {**self.good, odd: self.good[name]})
        self.fits(False, {})

    def test_an_offer_of_another_part(self):
        self.fits(False, self.changed("core", SHARER))
        self.fits(False, self.changed("core", FREE))
        self.fits(False, self.changed("base", SHARE))
        self.fits(False, self.changed("clock", GONE))

    def test_a_key_with_a_truth_as_its_number(self):
        for name in self.good:
            self.fits(False, self.changed(name, (self.good[name][0], True)))

    def test_things_in_the_place_of_a_key(self):
        for name in self.good:
            for thing in ODD_THINGS + ["share.1", ["share", 1], [SHARE], {SHARE: True}, Part("a", [SHARE])]:
                self.fits(False, self.changed(name, thing))

    def test_things_in_the_place_of_a_choice(self):
        for thing in ODD_THINGS + [list(self.good), list(self.good.items()), tuple(self.good.items()), "core", self.work]:
            self.fits(False, thing)

    def test_a_work_without_offers(self):
        for key in self.book.all_keys():
            for choice, due in (({}, True), (None, False), ([], False), ((), False), ({"a": FREE}, False), ({"a": None}, False)):
                self.assertIs(choice_fits(self.book, Part("a"), key, choice), due)

    def test_a_part_looked_at_as_a_top(self):
        deep = self.work.at("deep")
        self.assertIs(choice_fits(self.book, deep, MILD, {"deep": MILD}), True)
        self.assertIs(choice_fits(self.book, deep, SHARE, {"deep": MILD}), False)
        self.assertIs(choice_fits(self.book, deep, MILD, self.good), False)

    def test_the_choice_stays(self):
        kept = dict(self.good)
        self.fits(True, self.good)
        self.assertEqual(list(self.good.items()), list(kept.items()))

    def test_a_key_is_told_just_where_some_choice_fits(self):
        chance = random.Random(55)
        for turn in range(60):
            book = any_book(chance, 6)
            work = any_work(chance, book.all_keys(), 5)
            rows = [(name, offers, closeness) for name, offers, closeness in in_reading_order(work.told()) if offers]
            fitting = {key: [] for key in book.all_keys()}
            for picks in itertools.product(*[offers for name, offers, closeness in rows]):
                choice = {name: pick for (name, offers, closeness), pick in zip(rows, picks)}
                for key in book.all_keys():
                    faults = [due_fault(book.licence(pick), row[2], book.licence(key)) for row, pick in zip(rows, picks)]
                    self.assertIs(choice_fits(book, work, key, choice), set(faults) <= {None})
                    if choice_fits(book, work, key, choice):
                        fitting[key].append(choice)
            self.assertEqual(told_keys(book, work), [key for key in book.all_keys() if fitting[key]])
            for key in book.all_keys():
                for choice in fitting[key]:
                    for other in book.coverers(key):
                        self.assertTrue(choice_fits(book, work, other, choice))


class Changes(unittest.TestCase):
    """Point 56: a closer join, or a part more, adds no key, and what is lost is stopped beneath the change."""

    def with_join(self, told, name, join):
        word, offers, beneath = told
        return (word, offers, tuple((join if inner[0] == name else old, self.with_join(inner, name, join))
                                    for old, inner in beneath))

    def with_part(self, told, name, row):
        word, offers, beneath = told
        inner = tuple((old, self.with_part(part, name, row)) for old, part in beneath)
        return (word, offers, inner + (row,) if word == name else inner)

    def compare(self, book, before, after, beneath):
        was, now = told_keys(book, before), told_keys(book, after)
        self.assertLessEqual(set(now), set(was))
        lost = [key for key in was if key not in now]
        for key in lost:
            for name, faults in stops(book, after, key):
                self.assertIn(name, beneath)
        return len(lost)

    def test_a_closer_join(self):
        chance = random.Random(56)
        lost = 0
        for turn in range(60):
            book = any_book(chance, 10)
            work = any_work(chance, book.all_keys(), 6)
            for name in work.all_names()[1:]:
                for join in JOINS[JOINS.index(work.road(name)[-1][0]):]:
                    after = from_told(self.with_join(work.told(), name, join))
                    lost += self.compare(book, work, after, work.at(name).all_names())
        self.assertGreater(lost, 0)

    def test_a_part_more(self):
        chance = random.Random(57)
        lost = 0
        for turn in range(80):
            book = any_book(chance, 10)
            work = any_work(chance, book.all_keys(), 4)
            row = (chance.choice(JOINS), ("new", tuple(chance.sample(book.all_keys(), 2)), (
                (chance.choice(JOINS), ("newer", (chance.choice(book.all_keys()),), ())),)))
            for name in work.all_names():
                after = from_told(self.with_part(work.told(), name, row))
                lost += self.compare(book, work, after, ["new", "newer"])
        self.assertGreater(lost, 0)


if __name__ == "__main__":
    unittest.main()
