"""Points 41 to 43, and 4, 6 and 7 where they speak of works: making parts, and what a work tells."""

import itertools
import unittest

from grantweave.book import Book
from grantweave.errors import BadBeneath, BadOffers, Doubled, NoJoin, NoPart, NoWord, TooDeep, TooMany
from grantweave.joins import Called
from grantweave.works import Part
from tests.helping import JOINS, ODD_THINGS, Refusing
from tests.helping import part_name as name

FREE, SHARE = ("free", 1), ("share", 2)
NO_WORDS = [thing for thing in ODD_THINGS if not isinstance(thing, str)] + ["", "A", "a1", "a b", "abcdefghi", "a.1", "a\n"]
NO_OFFERS = [thing for thing in ODD_THINGS if thing is not None and thing != [] and thing != ()] + [
    FREE, "free.1", ["free.1"], [FREE, FREE], (SHARE, SHARE), [FREE, SHARE, ("a", 1)], [FREE, SHARE, FREE], [("a", True)],
    [("a", 1), ("a", True)], [["a", 1]], [FREE, None], [None, FREE], [(FREE, SHARE)], [("a", 100)], {FREE: SHARE}, [FREE, []],
    [[], FREE], [{}], ([FREE],), Part("a", [FREE])]
NO_BENEATH = [thing for thing in ODD_THINGS if thing is not None and thing != [] and thing != ()] + [
    Part("b"), [Part("b")], ("called", Part("b")), [["called", Part("b")]], [("called",)], [("called", Part("b"), 1)],
    [("called", "b")], [("called", None)], [(Part("b"), "called")], [("called", Part("b")), None], [(Called(), "b")],
    [None, ("called", Part("b"))], {"called": Part("b")}, {("called", Part("b")): True}, [()], [("called", ("b", (), ()))],
    "called b", [("called", [Part("b")])], [("called", Book([], [], []))]]
NO_JOINS = ODD_THINGS + ["join", "Called", "called ", Called(), ("called",), 0, 3]
NO_NAMES = ODD_THINGS + ["x", "zz", "ap", "appp", "App", "app ", ("app",), ["app"], {"app": 1}, Part("app"), Part("core")]


def chain(deep, start=0, join="joined"):
    """Parts right beneath one another, so many deep."""
    part = Part(name(start + deep - 1))
    for number in range(deep - 2, -1, -1):
        part = Part(name(start + number), None, [(join, part)])
    return part


def broad(many, start=0):
    """A part and so many beneath it, up to 42 of them, three deep at most."""
    left = many - 1
    beneath, at = [], start + 1
    while left > 0:
        size = min(left, 7)
        inner = [("beside", Part(name(at + 1 + step))) for step in range(size - 1)]
        beneath.append(("called", Part(name(at), None, inner)))
        left, at = left - size, at + size
    return Part(name(start), None, beneath)


def sample():
    clock = Part("clock", [FREE, SHARE])
    core = Part("core", [], [("called", clock), ("changed", Part("deep", [SHARE]))])
    return Part("app", [FREE], [("joined", core), ("beside", Part("art")), ("changed", Part("base", (SHARE, FREE)))])


class Making(Refusing):
    def test_the_fields(self):
        part = Part("b", [SHARE])
        made = Part("a", [FREE, SHARE], [("called", part)])
        self.alike((made.name, made.offers), ("a", (FREE, SHARE)))
        self.assertEqual(made.beneath, (("called", part),))
        self.assertIs(type(made.beneath), tuple)
        self.assertIs(made.beneath[0][1], part)

    def test_none_and_left_out(self):
        for made in (Part("a"), Part("a", None), Part("a", None, None), Part("a", [], []), Part("a", (), ()),
                     Part("a", beneath=None), Part("a", offers=None), Part(name="a", offers=[], beneath=())):
            self.alike((made.name, made.offers, made.beneath), ("a", (), ()))

    def test_lists_and_tuples(self):
        for offers in ([FREE, SHARE], (FREE, SHARE)):
            for beneath in ([("called", Part("b")), ("joined", Part("c"))], (("called", Part("b")), ("joined", Part("c")))):
                made = Part("a", offers, beneath)
                self.alike(made.told(), ("a", (FREE, SHARE), (("called", ("b", (), ())), ("joined", ("c", (), ())))))

    def test_none_one_and_two_offers_in_their_order(self):
        for offers in ([], [FREE], [FREE, SHARE], [SHARE, FREE], [("a", 1), ("a", 2)], [("a", 1), ("b", 1)]):
            self.alike(Part("a", offers).offers, tuple(offers))

    def test_all_four_joins(self):
        for word in JOINS:
            self.assertEqual(Part("a", None, [(word, Part("b"))]).road("b"), [(word, "b")])

    def test_names(self):
        for word in ("a", "z", "abcdefgh", "called"):
            self.assertEqual(Part(word).name, word)
        for thing in NO_WORDS:
            self.refused(NoWord, thing, lambda: Part(thing))

    def test_offers(self):
        for thing in NO_OFFERS:
            self.refused(BadOffers, thing, lambda: Part("a", thing))

    def test_what_is_beneath(self):
        for thing in NO_BENEATH:
            self.refused(BadBeneath, thing, lambda: Part("a", None, thing))

    def test_six_and_seven_right_beneath(self):
        rows = [("called", Part(name(number))) for number in range(40)]
        for kind in (list, tuple):
            self.assertEqual(len(Part("a", None, kind(rows[:6])).beneath), 6)
            for many in (7, 8, 40):
                self.refused(TooMany, many, lambda: Part("a", None, kind(rows[:many])))

    def test_the_joins_words(self):
        for thing in NO_JOINS:
            self.refused(NoJoin, thing, lambda: Part("a", None, [(thing, Part("b"))]))
            rows = [("called", Part("b")), (thing, Part("c")), ("odd", Part("d")), ("joined", Part("e"))]
            self.refused(NoJoin, thing, lambda: Part("a", None, rows))
            self.refused(NoJoin, thing, lambda: Part("a", None, tuple(rows)))

    def test_names_that_stand_twice(self):
        b, c = Part("b"), Part("c")
        deep = Part("d", None, [("called", Part("e", None, [("called", Part("b"))]))])
        rows = [
            ("a", [("called", Part("a"))], "a"),
            ("a", [("called", b), ("beside", b)], "b"),
            ("a", [("called", b), ("beside", Part("b"))], "b"),
            ("a", [("called", b), ("beside", c), ("called", c), ("called", b)], "c"),
            ("a", [("called", b), ("beside", deep)], "b"),
            ("a", [("beside", deep), ("called", b)], "b"),
            ("e", [("called", deep)], "e"),
            ("a", [("called", deep), ("called", Part("e")), ("called", Part("d"))], "e"),
            ("a", [("called", deep), ("called", Part("f", None, [("called", Part("d")), ("called", Part("a"))]))], "d"),
            ("b", [("called", Part("a", None, [("called", c)])), ("called", Part("f", None, [("called", c)])), ("called", b)], "c"),
        ]
        for top, beneath, due in rows:
            self.refused(Doubled, due, lambda: Part(top, None, beneath))

    def test_thirty_and_thirty_one_parts(self):
        for many in range(1, 31):
            self.assertEqual(len(broad(many).all_names()), many)
        for many in (31, 32, 36, 43):
            self.refused(TooMany, many, lambda: broad(many))

    def test_many_parts_beneath_several(self):
        rows = [("called", broad(30, 40 * place)) for place in range(6)]
        self.refused(TooMany, 181, lambda: Part("a", None, rows))
        self.assertEqual(len(Part("a", None, [("called", broad(29))]).all_names()), 30)
        self.refused(TooMany, 31, lambda: Part("a", None, [("called", broad(30))]))

    def test_six_and_seven_deep(self):
        for deep in range(1, 7):
            self.assertEqual(len(chain(deep).all_names()), deep)
        self.refused(TooDeep, 7, lambda: chain(7))
        self.refused(TooDeep, 7, lambda: Part("a", None, [("called", Part("b")), ("called", chain(6)), ("called", Part("c"))]))
        self.assertEqual(len(Part("a", None, [("called", chain(5)), ("called", chain(5, 20))]).all_names()), 11)

    def test_which_of_two_comes_first(self):
        seven = [("odd", Part("b"))] * 7
        many = [("called", broad(30, 40 * place)) for place in range(5)]
        deep_many = [("called", chain(6, 60))] + many[:1]
        steps = [
            (NoWord, "A", "A", [FREE, FREE], [None]),
            (BadOffers, [FREE, FREE], "a", [FREE, FREE], [None]),
            (BadOffers, 5, "a", 5, seven),
            (BadBeneath, seven + [None], "a", [FREE], seven + [None]),
            (TooMany, 7, "a", [FREE], seven),
            (NoJoin, "odd", "a", [FREE], seven[:6]),
            (NoJoin, None, "a", [FREE], many + [(None, chain(6, 60))]),
            (Doubled, "paa", "a", [FREE], many + [("called", broad(30))]),
            (Doubled, "paa", "a", [FREE], [("called", chain(6)), ("called", chain(6))]),
            (Doubled, "paa", "paa", None, [("called", chain(6))]),
            (TooMany, 151, "a", [FREE], many),
            (TooMany, 37, "a", [FREE], deep_many),
            (TooDeep, 7, "a", [FREE], deep_many[:1]),
        ]
        for error, held, top, offers, beneath in steps:
            self.refused(error, held, lambda: Part(top, offers, beneath))

    def test_what_is_handed_in_stays_and_is_a_copy(self):
        offers, beneath = [FREE, SHARE], [("called", Part("b")), ("joined", Part("c"))]
        kept = list(beneath)
        made = Part("a", offers, beneath)
        self.assertEqual((offers, beneath), ([FREE, SHARE], kept))
        offers.pop()
        offers[0] = SHARE
        beneath.reverse()
        beneath.clear()
        self.alike(made.told(), ("a", (FREE, SHARE), (("called", ("b", (), ())), ("joined", ("c", (), ())))))
        self.assertEqual(made.all_names(), ["a", "b", "c"])

    def test_what_is_refused_stays(self):
        offers, beneath = [FREE, FREE], [("odd", Part("b"))]
        self.refused(BadOffers, [FREE, FREE], lambda: Part("a", offers, beneath))
        self.refused(NoJoin, "odd", lambda: Part("a", None, beneath))
        self.assertEqual((offers, len(beneath)), ([FREE, FREE], 1))


class Telling(Refusing):
    def test_names_in_reading_order(self):
        self.alike(sample().all_names(), ["app", "core", "clock", "deep", "art", "base"])
        self.alike(Part("a").all_names(), ["a"])
        self.alike(chain(6).all_names(), [name(number) for number in range(6)])
        self.alike(broad(30).all_names(), [name(number) for number in range(30)])

    def test_the_part_of_a_name(self):
        work = sample()
        self.assertIs(work.at("app"), work)
        for word in work.all_names():
            self.assertIsInstance(work.at(word), Part)
            self.assertEqual(work.at(word).name, word)
        self.alike(work.at("clock").told(), ("clock", (FREE, SHARE), ()))
        self.assertIs(work.at("core").at("clock"), work.at("clock"))
        self.assertEqual(work.at("base").offers, (SHARE, FREE))

    def test_the_row_of_joins(self):
        work = sample()
        roads = {
            "app": [], "core": [("joined", "core")], "clock": [("joined", "core"), ("called", "clock")],
            "deep": [("joined", "core"), ("changed", "deep")], "art": [("beside", "art")], "base": [("changed", "base")],
        }
        for word, road in roads.items():
            self.alike(work.road(word), road)
        self.alike(chain(6).road(name(5)), [("joined", name(number)) for number in range(1, 6)])

    def test_the_closeness(self):
        work = sample()
        due = {"app": 3, "core": 2, "clock": 0, "deep": 2, "art": 1, "base": 3}
        for word, closeness in due.items():
            self.alike(work.closeness_of(word), closeness)

    def test_the_closeness_is_the_least_on_the_row(self):
        for many in range(6):
            for places in itertools.product(range(4), repeat=many):
                part = Part(name(many))
                for number in range(many - 1, -1, -1):
                    part = Part(name(number), None, [(JOINS[places[number]], part)])
                for number in range(many + 1):
                    self.assertEqual(part.closeness_of(name(number)), min((3,) + places[:number]))

    def test_what_is_no_name_there(self):
        work = sample()
        for thing in NO_NAMES:
            for ask in (work.at, work.road, work.closeness_of):
                self.refused(NoPart, thing, lambda: ask(thing))
        for thing in ("app", "art", "base"):
            for ask in (work.at("core").at, work.at("core").road, work.at("core").closeness_of):
                self.refused(NoPart, thing, lambda: ask(thing))

    def test_a_part_looked_at_as_a_top(self):
        core = sample().at("core")
        self.alike(core.all_names(), ["core", "clock", "deep"])
        self.alike([core.closeness_of(word) for word in core.all_names()], [3, 0, 3])
        self.alike([core.road(word) for word in core.all_names()], [[], [("called", "clock")], [("changed", "deep")]])

    def test_the_same_part_beneath_two_tops(self):
        core = sample().at("core")
        one = Part("one", None, [("called", core)])
        other = Part("other", None, [("changed", Part("mid", None, [("beside", core)]))])
        self.assertIs(one.at("core"), other.at("core"))
        self.assertEqual([one.closeness_of(word) for word in one.all_names()], [3, 0, 0, 0])
        self.assertEqual([other.closeness_of(word) for word in other.all_names()], [3, 3, 1, 0, 1])
        self.assertEqual(one.road("deep"), [("called", "core"), ("changed", "deep")])
        self.assertEqual(other.road("deep"), [("changed", "mid"), ("beside", "core"), ("changed", "deep")])
        self.assertEqual(core.road("deep"), [("changed", "deep")])

    def test_rows_and_closeness_of_parts_of_parts(self):
        for work in (sample(), broad(30), chain(6), Part("a", None, [("beside", chain(5)), ("called", broad(9, 50))])):
            for upper in work.all_names():
                part = work.at(upper)
                for lower in part.all_names():
                    self.assertEqual(work.road(lower), work.road(upper) + part.road(lower))
                    self.assertEqual(work.closeness_of(lower), min(work.closeness_of(upper), part.closeness_of(lower)))

    def test_told_in_full(self):
        self.alike(Part("a").told(), ("a", (), ()))
        self.alike(sample().told(), ("app", (FREE,), (
            ("joined", ("core", (), (("called", ("clock", (FREE, SHARE), ())), ("changed", ("deep", (SHARE,), ()))))),
            ("beside", ("art", (), ())),
            ("changed", ("base", (SHARE, FREE), ())))))

    def test_works_made_alike_tell_alike(self):
        self.assertEqual(sample().told(), sample().told())
        self.assertEqual(sample().all_names(), sample().all_names())

    def test_lists_that_are_told_are_the_askers_own(self):
        work = sample()
        before = work.told()
        work.all_names().clear()
        work.road("clock").append(("x", "y"))
        work.road("clock")[0] = ("called", "q")
        work.road("app").append(("x", "y"))
        self.assertEqual(work.all_names(), ["app", "core", "clock", "deep", "art", "base"])
        self.assertEqual(work.road("clock"), [("joined", "core"), ("called", "clock")])
        self.assertEqual(work.road("app"), [])
        self.assertEqual((work.told(), work.closeness_of("clock")), (before, 0))
        self.assertEqual(work.at("core").told(), sample().at("core").told())


if __name__ == "__main__":
    unittest.main()
