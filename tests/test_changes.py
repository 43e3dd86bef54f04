"""Points 101 to 104, and 6 where it speaks of them: works that are changed, and what is lost and gained."""

import random
import unittest

from grantweave.book import Book
from grantweave.booktext import show_book
from grantweave.changes import compared_works, put_beneath, rejoined, reoffered, taken_out
from grantweave.errors import BadBeneath, BadOffers, Doubled, NoJoin, NoKey, NoPart, TooDeep, TooMany
from grantweave.whole import stops, told_keys
from grantweave.works import Part
from tests.helping import JOINS, NO_NAMES, ODD_THINGS, Refusing, any_book, any_work, licence, part_name

FREE, SHARE, SHUT = ("free", 1), ("share", 1), ("shut", 1)
GONE, LOST = ("gone", 1), ("lost", 2)
NO_JOINS = ODD_THINGS + ["", "join", "Called", "called ", ["called"], ("called",), 0, 3]
NO_OFFERS = [thing for thing in ODD_THINGS if thing not in ((), [])]
NO_OFFERS += [[FREE, FREE], [FREE, SHARE, SHUT], [("free", True)], [FREE, None], ["free.1"], FREE, {FREE: True}, [["free", 1]]]


def sample_work():
    core = Part("core", [SHARE], [("called", Part("clock", [SHUT])), ("changed", Part("deep", [FREE, SHARE]))])
    return Part("app", [FREE], [("joined", core), ("beside", Part("art", [SHUT, FREE])), ("changed", Part("base"))])


def sample_told(core=None, art=None, base=None, offers=(FREE,), more=()):
    core = core or (("joined", ("core", (SHARE,), (("called", ("clock", (SHUT,), ())), ("changed", ("deep", (FREE, SHARE), ()))))),)
    art = (("beside", ("art", (SHUT, FREE), ())),) if art is None else art
    base = (("changed", ("base", (), ())),) if base is None else base
    return ("app", offers, core + art + base + more)


def row_of_parts(first, many):
    """A part that has so many parts, itself among them, each beneath the one ahead."""
    part = None
    for number in range(first + many - 1, first - 1, -1):
        part = Part(part_name(number), None, [("called", part)] if part else None)
    return part


def wide(first, many):
    """A part with parts beneath it, and others beneath these, so many in all, three deep at most."""
    names = [part_name(number) for number in range(first + 1, first + many)]
    rows = [names[place:place + 6] for place in range(0, len(names), 6)]
    return Part(part_name(first), None, [("called", Part(row[0], None, [("called", Part(name)) for name in row[1:]])) for row in rows])


def with_row(told, name, row):
    """A work told in full, with a row more right beneath the part of this name."""
    beneath = tuple((word, with_row(inner, name, row)) for word, inner in told[2])
    return (told[0], told[1], beneath + (row,) if told[0] == name else beneath)


def without(told, name):
    return (told[0], told[1], tuple((word, without(inner, name)) for word, inner in told[2] if inner[0] != name))


def with_join(told, name, join):
    return (told[0], told[1], tuple((join if inner[0] == name else word, with_join(inner, name, join)) for word, inner in told[2]))


def with_offers(told, name, offers):
    return (told[0], offers if told[0] == name else told[1], tuple((word, with_offers(inner, name, offers)) for word, inner in told[2]))


class Putting(Refusing):
    """Point 101."""

    def setUp(self):
        self.work = sample_work()

    def test_behind_all_that_are_right_beneath(self):
        new = Part("new", [SHUT], [("called", Part("newer"))])
        row = ("joined", ("new", (SHUT,), (("called", ("newer", (), ())),)))
        self.alike(put_beneath(self.work, "app", "joined", new).told(), sample_told(more=(row,)))
        self.alike(put_beneath(self.work, "base", "joined", new).told(), sample_told(base=(("changed", ("base", (), (row,))),)))
        core = (("joined", ("core", (SHARE,), (("called", ("clock", (SHUT,), ())), ("changed", ("deep", (FREE, SHARE), ())), row))),)
        self.alike(put_beneath(self.work, "core", "joined", new).told(), sample_told(core=core))

    def test_each_join(self):
        for join in JOINS:
            after = put_beneath(self.work, "deep", join, Part("new"))
            self.assertIs(type(after), Part)
            self.alike(after.road("new"), [("joined", "core"), ("changed", "deep"), (join, "new")])

    def test_what_is_refused(self):
        new = Part("new")
        for thing in NO_NAMES:
            for join, part in (("called", new), (None, None)):
                self.refused(NoPart, thing, lambda: put_beneath(self.work, thing, join, part))
        for thing in ODD_THINGS + ["new", ("called", new), [new], new.told()]:
            for join in ("called", None, "x"):
                self.refused(BadBeneath, thing, lambda: put_beneath(self.work, "core", join, thing))
        for thing in NO_JOINS:
            self.refused(NoJoin, thing, lambda: put_beneath(self.work, "core", thing, new))
            self.refused(NoJoin, thing, lambda: put_beneath(self.work, "core", thing, self.work))

    def test_six_right_beneath(self):
        work = Part("top", None, [("called", Part(part_name(number))) for number in range(5)])
        work = put_beneath(work, "top", "beside", Part("six"))
        self.assertEqual(len(work.beneath), 6)
        self.refused(TooMany, 7, lambda: put_beneath(work, "top", "beside", Part("seven")))
        self.refused(TooMany, 7, lambda: put_beneath(work, "top", "beside", work))
        self.refused(TooMany, 7, lambda: put_beneath(work, "top", "beside", row_of_parts(10, 6)))
        self.refused(NoJoin, "x", lambda: put_beneath(work, "top", "x", Part("seven")))
        self.assertEqual(put_beneath(work, "six", "beside", Part("seven")).all_names()[-2:], ["six", "seven"])

    def test_the_first_name_of_the_put_part_that_the_work_has(self):
        put = Part("new", None, [("called", Part("base", None, [("called", Part("x"))])), ("called", Part("core"))])
        for under in ("app", "core", "clock", "base", "art"):
            self.refused(Doubled, "base", lambda: put_beneath(self.work, under, "called", put))
            self.refused(Doubled, under, lambda: put_beneath(self.work, under, "called", Part(under)))
            self.refused(Doubled, "app", lambda: put_beneath(self.work, under, "called", self.work))
        self.refused(Doubled, "deep", lambda: put_beneath(self.work, "clock", "called", self.work.at("deep")))

    def test_thirty_parts(self):
        self.assertEqual(len(put_beneath(wide(0, 25), part_name(3), "called", wide(30, 5)).all_names()), 30)
        self.refused(TooMany, 31, lambda: put_beneath(wide(0, 25), part_name(3), "called", wide(30, 6)))
        self.refused(TooMany, 31, lambda: put_beneath(wide(0, 30), part_name(3), "called", Part("new")))
        self.refused(TooMany, 60, lambda: put_beneath(wide(0, 30), part_name(3), "called", wide(30, 30)))

    def test_six_deep(self):
        work = row_of_parts(0, 4)
        self.assertEqual(len(put_beneath(work, part_name(3), "called", row_of_parts(30, 2)).all_names()), 6)
        self.refused(TooDeep, 7, lambda: put_beneath(work, part_name(3), "called", row_of_parts(30, 3)))
        self.refused(TooDeep, 7, lambda: put_beneath(work, part_name(0), "called", row_of_parts(30, 6)))
        self.refused(TooDeep, 12, lambda: put_beneath(row_of_parts(0, 6), part_name(5), "called", row_of_parts(30, 6)))
        self.assertEqual(len(put_beneath(work, part_name(0), "called", row_of_parts(30, 5)).all_names()), 9)

    def test_which_comes_first(self):
        # Each of these has what is told by itself above, and what is told there behind it, too.
        deep = put_beneath(wide(0, 24), part_name(1), "called", row_of_parts(40, 4))
        self.assertEqual(len(deep.all_names()), 28)
        self.refused(TooMany, 31, lambda: put_beneath(deep, part_name(43), "called", row_of_parts(50, 3)))
        self.refused(Doubled, part_name(2), lambda: put_beneath(deep, part_name(43), "called", row_of_parts(2, 3)))
        full = Part("top", None, [("called", Part(part_name(number))) for number in range(6)])
        self.refused(TooMany, 7, lambda: put_beneath(full, "top", "called", full))
        self.refused(NoJoin, 5, lambda: put_beneath(full, "top", 5, full))
        self.refused(BadBeneath, 6, lambda: put_beneath(full, "top", 5, 6))
        self.refused(NoPart, 4, lambda: put_beneath(full, 4, 5, 6))

    def test_by_chance(self):
        chance = random.Random(101)
        for turn in range(60):
            book = any_book(chance, 6)
            work = any_work(chance, book.all_keys(), chance.randrange(1, 9))
            put = Part("new", [chance.choice(book.all_keys())], [(chance.choice(JOINS), Part("newer"))])
            for name in work.all_names():
                join = chance.choice(JOINS)
                if len(work.at(name).beneath) < 6 and len(work.road(name)) < 4:
                    self.alike(put_beneath(work, name, join, put).told(), with_row(work.told(), name, (join, put.told())))


class Otherwise(Refusing):
    """Point 102."""

    def setUp(self):
        self.work = sample_work()

    def test_taken_out_with_all_that_is_beneath(self):
        left = (("beside", ("art", (SHUT, FREE), ())), ("changed", ("base", (), ())))
        self.alike(taken_out(self.work, "core").told(), ("app", (FREE,), left))
        self.alike(taken_out(self.work, "art").told(), sample_told(art=()))
        self.alike(taken_out(self.work, "base").told(), sample_told(base=()))
        core = (("joined", ("core", (SHARE,), (("changed", ("deep", (FREE, SHARE), ())),))),)
        self.alike(taken_out(self.work, "clock").told(), sample_told(core=core))

    def test_joined_otherwise(self):
        for join in JOINS:
            self.alike(rejoined(self.work, "art", join).told(), sample_told(art=((join, ("art", (SHUT, FREE), ())),)))
            core = (("joined", ("core", (SHARE,), (("called", ("clock", (SHUT,), ())), (join, ("deep", (FREE, SHARE), ()))))),)
            self.alike(rejoined(self.work, "deep", join).told(), sample_told(core=core))
            self.assertEqual(rejoined(self.work, "core", join).road("deep"), [(join, "core"), ("changed", "deep")])

    def test_offered_otherwise(self):
        for offers in ([], [SHARE], [SHUT, GONE], (FREE, SHARE), ()):
            self.alike(reoffered(self.work, "app", offers).told(), sample_told(offers=tuple(offers)))
            self.alike(reoffered(self.work, "art", offers).told(), sample_told(art=(("beside", ("art", tuple(offers), ())),)))
            after = reoffered(self.work, "core", offers)
            self.alike(after.at("core").offers, tuple(offers))
            self.alike(after.at("core").beneath, self.work.at("core").beneath)
            self.assertEqual(after.all_names(), self.work.all_names())

    def test_of_a_part_without_others(self):
        self.alike(reoffered(Part("a"), "a", [FREE]).told(), ("a", (FREE,), ()))
        for thing in ("a", "b", None):
            self.refused(NoPart, thing, lambda: taken_out(Part("a"), thing))
            self.refused(NoPart, thing, lambda: rejoined(Part("a"), thing, "called"))

    def test_what_is_no_name(self):
        for thing in NO_NAMES + ["app"]:
            self.refused(NoPart, thing, lambda: taken_out(self.work, thing))
            for join in ("called", None, 5):
                self.refused(NoPart, thing, lambda: rejoined(self.work, thing, join))
        for thing in NO_NAMES:
            for offers in ([], None, [FREE, FREE]):
                self.refused(NoPart, thing, lambda: reoffered(self.work, thing, offers))

    def test_what_is_no_join(self):
        for thing in NO_JOINS:
            self.refused(NoJoin, thing, lambda: rejoined(self.work, "core", thing))

    def test_what_are_no_offers(self):
        for thing in NO_OFFERS:
            for name in ("app", "core", "deep"):
                self.refused(BadOffers, thing, lambda: reoffered(self.work, name, thing))

    def test_offers_are_kept_as_a_copy(self):
        offers = [SHARE]
        after = reoffered(self.work, "core", offers)
        offers.append(FREE)
        self.alike(after.at("core").offers, (SHARE,))

    def test_what_is_handed_in_stays(self):
        new = Part("new")
        put_beneath(self.work, "core", "called", new)
        taken_out(self.work, "core")
        rejoined(self.work, "core", "called")
        reoffered(self.work, "core", [])
        self.alike((self.work.told(), new.told()), (sample_work().told(), ("new", (), ())))

    def test_by_chance(self):
        chance = random.Random(102)
        for turn in range(25):
            keys = any_book(chance, 6).all_keys()
            work = any_work(chance, keys, chance.randrange(1, 31))
            for name in work.all_names():
                offers = chance.sample(keys, chance.randrange(3))
                self.alike(reoffered(work, name, offers).told(), with_offers(work.told(), name, tuple(offers)))
                if name != work.name:
                    join = chance.choice(JOINS)
                    self.alike(rejoined(work, name, join).told(), with_join(work.told(), name, join))
                    self.alike(taken_out(work, name).told(), without(work.told(), name))

    def test_one_change_takes_back_another(self):
        chance = random.Random(103)
        for turn in range(30):
            work = any_work(chance, any_book(chance, 6).all_keys(), 20)
            if len(work.beneath) < 6:
                self.alike(taken_out(put_beneath(work, work.name, "called", Part("new")), "new").told(), work.told())
            for name in work.all_names()[1:]:
                old = work.road(name)[-1][0]
                self.alike(rejoined(rejoined(work, name, "called"), name, old).told(), work.told())
                self.alike(reoffered(reoffered(work, name, []), name, work.at(name).offers).told(), work.told())


class Comparing(Refusing):
    """Points 103 and 104."""

    def setUp(self):
        self.book = Book(["open"], [], [
            licence(FREE, 31, reach=3), licence(SHARE, 15, 1, reach=2), licence(("free", 2), 31, reach=2), licence(SHUT, 1, reach=0)])

    def test_lost_and_gained_in_the_books_order(self):
        before = Part("a", None, [("called", Part("b", [SHARE])), ("changed", Part("c", [("free", 2)]))])
        after = rejoined(before, "b", "changed")
        self.alike(told_keys(self.book, before), [SHARE, ("free", 2), SHUT])
        self.alike(told_keys(self.book, after), [SHARE])
        self.alike(compared_works(self.book, before, after), ([(("free", 2), "b"), (SHUT, "b")], []))
        self.alike(compared_works(self.book, after, before), ([], [(("free", 2), "b"), (SHUT, "b")]))

    def test_both_lost_and_gained(self):
        self.alike(compared_works(self.book, Part("a", [FREE]), Part("a", [SHARE])),
                   ([(FREE, "a"), (("free", 2), "a"), (SHUT, "a")], []))
        book = Book(["s"], [], [licence(FREE, 31, reach=1), licence(SHARE, 15, 1, reach=1), licence(SHUT, 31, bars=1, reach=1)])
        self.alike(compared_works(book, Part("a", [SHARE]), Part("b", [SHUT])), ([(SHARE, "b")], [(SHUT, "a")]))
        self.alike(compared_works(book, Part("b", [SHUT]), Part("a", [SHARE])), ([(SHUT, "a")], [(SHARE, "b")]))

    def test_the_first_part_that_stops_it(self):
        after = Part("z", None, [("called", Part("y", [FREE])), ("joined", Part("m", [SHARE])), ("joined", Part("b", [SHARE]))])
        self.alike(compared_works(self.book, Part("a"), after)[0], [(FREE, "m"), (("free", 2), "m"), (SHUT, "m")])

    def test_a_work_with_itself(self):
        self.alike(compared_works(self.book, sample_work(), sample_work()), ([], []))

    def test_an_unknown_offer_the_first_work_first(self):
        one, other, good = Part("a", [FREE], [("called", Part("b", [LOST]))]), Part("a", [GONE]), Part("a", [FREE])
        self.refused(NoKey, LOST, lambda: compared_works(self.book, one, other))
        self.refused(NoKey, GONE, lambda: compared_works(self.book, other, one))
        self.refused(NoKey, GONE, lambda: compared_works(self.book, good, other))
        self.refused(NoKey, GONE, lambda: compared_works(self.book, other, good))
        empty = Book([], [], [])
        self.alike(compared_works(empty, Part("a"), Part("b")), ([], []))
        self.refused(NoKey, GONE, lambda: compared_works(empty, Part("a"), other))
        # Where nothing is told for the first work the second one is looked at no less.
        self.refused(NoKey, GONE, lambda: compared_works(self.book, Part("a", [SHUT]), other))

    def test_lists_are_the_askers_own(self):
        before, after = Part("a"), Part("a", [SHARE])
        kept = compared_works(self.book, before, after)
        for rows in compared_works(self.book, before, after):
            rows.clear()
        self.alike(compared_works(self.book, before, after), kept)
        self.assertIn(SHUT, self.book.all_keys())
        self.assertIn("licence shut.1", show_book(self.book))

    def test_by_the_words_of_the_document(self):
        chance = random.Random(104)
        seen = 0
        for turn in range(80):
            book = any_book(chance, chance.randrange(2, 13))
            before, after = [any_work(chance, book.all_keys(), chance.randrange(1, 5)) for side in range(2)]
            was, now = told_keys(book, before), told_keys(book, after)
            lost = [(key, stops(book, after, key)[0][0]) for key in book.all_keys() if key in was and key not in now]
            gained = [(key, stops(book, before, key)[0][0]) for key in book.all_keys() if key in now and key not in was]
            self.alike(compared_works(book, before, after), (lost, gained))
            seen += bool(lost and gained)
        self.assertGreater(seen, 3)

    def test_what_a_change_loses_and_gains(self):
        chance = random.Random(105)
        lost = gained = 0
        for turn in range(30):
            book = any_book(chance, 10)
            work = any_work(chance, book.all_keys(), 6)
            put = Part("new", chance.sample(book.all_keys(), 2), [(chance.choice(JOINS), Part("newer", [chance.choice(book.all_keys())]))])
            for name in work.all_names():
                if len(work.at(name).beneath) < 6 and len(work.road(name)) < 4:
                    found = compared_works(book, work, put_beneath(work, name, chance.choice(JOINS), put))
                    self.assertEqual(found[1], [])
                    self.assertLessEqual({row[1] for row in found[0]}, {"new", "newer"})
                    lost += len(found[0])
            for name in work.all_names()[1:]:
                found = compared_works(book, work, taken_out(work, name))
                self.assertEqual(found[0], [])
                gained += len(found[1])
                place = JOINS.index(work.road(name)[-1][0])
                for join in JOINS:
                    found = compared_works(book, work, rejoined(work, name, join))
                    if JOINS.index(join) <= place:
                        self.assertEqual(found[0], [])
                    if JOINS.index(join) >= place:
                        self.assertEqual(found[1], [])
                        self.assertLessEqual({row[1] for row in found[0]}, set(work.at(name).all_names()))
        self.assertGreater(min(lost, gained), 20)


if __name__ == "__main__":
    unittest.main()
