"""Points 71 to 74, and 6 where it speaks of them: works that are given on step by step."""

import itertools
import random
import unittest

from grantweave.book import Book
from grantweave.booktext import show_book
from grantweave.duties import least_choice
from grantweave.errors import GrantError, NoKey, NoPart, NoSteps, Stopped
from grantweave.steps import given_on, stepped, whole_choice
from grantweave.whole import choice_fits, stops, told_keys
from grantweave.works import Part
from tests.helping import NO_KEYS, NO_NAMES, ODD_THINGS, Refusing, any_book, any_work, from_told, licence

FREE, SHARE, SHARER, MILD, SHUT = ("free", 1), ("share", 1), ("share", 2), ("mild", 1), ("shut", 1)
GONE, LOST = ("gone", 1), ("lost", 2)


def sample_book():
    return Book(["open", "named"], ["list"], [
        licence(FREE, lets=31, reach=3),
        licence(SHARE, lets=15, strings=1, reach=2, same=True),
        licence(SHARER, lets=15, strings=1, reach=2, same=True),
        licence(MILD, lets=15, bars=1, reach=2),
        licence(SHUT, lets=3, strings=2, reach=1),
    ])


def sample_work():
    """Closeness: app 3, core 2, clock 0, deep 2, art 1, base 3; nothing stands beneath clock, deep, art and base."""
    core = Part("core", [SHARE], [("called", Part("clock", [SHUT])), ("changed", Part("deep", [MILD, SHARE]))])
    return Part("app", [], [("joined", core), ("beside", Part("art", [SHUT, FREE])), ("changed", Part("base", [FREE]))])


def unknown_work():
    return Part("app", [SHUT], [("called", Part("core", [FREE, LOST])), ("called", Part("art", [GONE])), ("called", Part("b", [FREE]))])


def with_given(told, name, key):
    """A work told in full, given on by the words of point 71."""
    if told[0] == name:
        return (name, (key,), ())
    return (told[0], told[1], tuple((word, with_given(inner, name, key)) for word, inner in told[2]))


def any_steps(chance, book, work, many):
    """Steps by chance, each under a key that is told for its part by then."""
    steps = []
    for turn in range(many):
        name = chance.choice(work.all_names())
        keys = told_keys(book, work.at(name))
        if keys:
            steps.append((name, chance.choice(keys)))
            work = from_told(with_given(work.told(), *steps[-1]))
    return steps, work


class GivenOn(Refusing):
    """Point 71."""

    def setUp(self):
        self.book, self.work = sample_book(), sample_work()

    def told(self, name, key):
        return given_on(self.book, self.work, name, key).told()

    def test_a_part_in_the_middle(self):
        self.alike(self.told("core", SHARER), ("app", (), (
            ("joined", ("core", (SHARER,), ())), ("beside", ("art", (SHUT, FREE), ())), ("changed", ("base", (FREE,), ())))))

    def test_parts_with_nothing_beneath(self):
        self.alike(self.told("art", FREE), ("app", (), (
            ("joined", ("core", (SHARE,), (("called", ("clock", (SHUT,), ())), ("changed", ("deep", (MILD, SHARE), ()))))),
            ("beside", ("art", (FREE,), ())), ("changed", ("base", (FREE,), ())))))
        self.alike(self.told("deep", MILD), ("app", (), (
            ("joined", ("core", (SHARE,), (("called", ("clock", (SHUT,), ())), ("changed", ("deep", (MILD,), ()))))),
            ("beside", ("art", (SHUT, FREE), ())), ("changed", ("base", (FREE,), ())))))

    def test_the_top(self):
        self.alike(self.told("app", SHARE), ("app", (SHARE,), ()))
        self.alike(given_on(self.book, Part("a"), "a", SHUT).told(), ("a", (SHUT,), ()))

    def test_a_part_without_offers_has_one_then(self):
        work = Part("a", None, [("beside", Part("b", None, [("called", Part("c"))]))])
        self.alike(given_on(self.book, work, "b", SHUT).told(), ("a", (), (("beside", ("b", (SHUT,), ())),)))

    def test_it_is_a_work_of_its_own(self):
        after = given_on(self.book, self.work, "core", SHARE)
        self.assertIs(type(after), Part)
        self.assertEqual(after.all_names(), ["app", "core", "art", "base"])
        self.assertEqual(after.road("core"), [("joined", "core")])

    def test_the_closeness_is_the_one_beneath_the_part(self):
        # In the whole clock is called, and by itself the top.
        self.refused(Stopped, "clock", lambda: self.told("clock", SHUT))
        self.assertEqual(stops(self.book, self.work, SHARE), [])
        # Beneath core, looked at as a top, deep is changed, and joined in the whole.
        book = Book([], [], [licence(FREE, lets=7, reach=3), licence(SHARE, lets=31, reach=3)])
        work = Part("a", None, [("joined", Part("b", None, [("changed", Part("c", [FREE]))]))])
        self.assertEqual(stops(book, work, SHARE), [])
        self.refused(Stopped, "c", lambda: given_on(book, work, "b", SHARE))
        self.alike(given_on(book, work, "a", SHARE).told(), ("a", (SHARE,), ()))

    def test_the_first_part_that_stops_it(self):
        self.refused(Stopped, "core", lambda: self.told("app", FREE))
        self.refused(Stopped, "core", lambda: self.told("core", MILD))
        self.refused(Stopped, "deep", lambda: self.told("deep", FREE))
        work = Part("a", None, [("called", Part("b", [SHUT])), ("joined", Part("c", None, [("called", Part("d", [SHUT])),
                    ("changed", Part("e", [SHUT])), ("joined", Part("f", [SHUT]))]))])
        for name in ("a", "c"):
            self.refused(Stopped, "e", lambda: given_on(self.book, work, name, FREE))

    def test_parts_elsewhere_do_not_stop_it(self):
        work = Part("a", [SHUT], [("changed", Part("b", [FREE])), ("changed", Part("c", [SHUT]))])
        self.alike(given_on(self.book, work, "b", FREE).told(), work.told())

    def test_what_is_refused_first(self):
        for thing in NO_NAMES:
            for work, key in ((self.work, FREE), (self.work, GONE), (unknown_work(), None)):
                self.refused(NoPart, thing, lambda: given_on(self.book, work, thing, key))
        for thing in NO_KEYS:
            self.refused(NoKey, thing, lambda: given_on(self.book, self.work, "core", thing))
            self.refused(NoKey, thing, lambda: given_on(self.book, unknown_work(), "app", thing))
        # An offer of a part elsewhere is looked at, too, and ahead of what stops the key.
        for name in ("app", "core", "art", "b"):
            for key in (FREE, SHUT, MILD):
                self.refused(NoKey, LOST, lambda: given_on(self.book, unknown_work(), name, key))
        work = Part("app", None, [("called", Part("b", [SHUT])), ("called", Part("c", [GONE]))])
        self.refused(NoKey, GONE, lambda: given_on(self.book, work, "b", FREE))

    def test_what_is_handed_in_stays(self):
        self.told("core", SHARER)
        self.assertEqual((show_book(self.book), self.work.told()), (show_book(sample_book()), sample_work().told()))

    def test_by_the_words_of_the_document(self):
        chance = random.Random(71)
        done = 0
        for turn in range(25):
            book = any_book(chance, chance.randrange(2, 13))
            work = any_work(chance, book.all_keys(), chance.randrange(1, 31))
            for name in work.all_names():
                for key in book.all_keys():
                    stopping = stops(book, from_told(work.at(name).told()), key)
                    if stopping:
                        self.refused(Stopped, stopping[0][0], lambda: given_on(book, work, name, key))
                    else:
                        done += 1
                        self.alike(given_on(book, work, name, key).told(), with_given(work.told(), name, key))
        self.assertGreater(done, 100)


class Stepped(Refusing):
    """Point 72."""

    def setUp(self):
        self.book, self.work = sample_book(), sample_work()

    def told(self, steps):
        return stepped(self.book, self.work, steps).told()

    def test_no_steps(self):
        self.alike(self.told([]), self.work.told())
        self.alike(stepped(self.book, unknown_work(), []).told(), unknown_work().told())

    def test_several(self):
        steps = [("deep", SHARE), ("art", FREE), ("core", SHARER)]
        self.alike(self.told(steps), ("app", (), (
            ("joined", ("core", (SHARER,), ())), ("beside", ("art", (FREE,), ())), ("changed", ("base", (FREE,), ())))))
        self.alike(self.told(steps + [("app", SHARER)]), ("app", (SHARER,), ()))

    def test_the_same_part_again(self):
        self.alike(self.told([("core", SHARE), ("core", SHARER)]), self.told([("core", SHARER)]))
        self.refused(Stopped, "core", lambda: self.told([("core", SHARER), ("core", SHARE)]))

    def test_a_name_that_an_earlier_step_took_away(self):
        self.refused(NoPart, "deep", lambda: self.told([("core", SHARE), ("deep", SHARE)]))
        self.refused(NoPart, "core", lambda: self.told([("app", SHARE), ("core", SHARE)]))
        self.alike(self.told([("deep", SHARE), ("core", SHARE)]), self.told([("core", SHARE)]))

    def test_what_is_told_of_the_work_as_it_is_by_then(self):
        work = Part("a", None, [("joined", Part("b", [SHUT, FREE])), ("joined", Part("c", [FREE]))])
        self.alike(stepped(self.book, work, [("b", FREE), ("a", FREE)]).told(), ("a", (FREE,), ()))
        # Under share the part is a same one; so the whole can't be free any longer.
        self.refused(Stopped, "b", lambda: stepped(self.book, work, [("b", SHARE), ("a", FREE)]))

    def test_a_hundred(self):
        self.alike(self.told([("core", SHARE)] * 99 + [("base", FREE)]), self.told([("core", SHARE)]))

    def test_what_is_no_list_of_tuples_of_two_things(self):
        good = ("core", SHARE)
        for thing in ODD_THINGS + [good, (good,), {"core": SHARE}, "core", {good: True}]:
            if thing != []:
                self.refused(NoSteps, thing, lambda: self.told(thing))
        for thing in ODD_THINGS + [["core", SHARE], ("core",), ("core", SHARE, 1), "ab", {"core": SHARE}]:
            if not isinstance(thing, tuple) or len(thing) != 2:
                for steps in ([thing], [good, thing], [("x", GONE), thing], [thing, good]):
                    self.refused(NoSteps, steps, lambda: self.told(steps))

    def test_step_by_step(self):
        for thing in NO_NAMES:
            for key in (SHARE, None, ["share", 1]):
                self.refused(NoPart, thing, lambda: self.told([("core", SHARE), (thing, key), ("core", GONE)]))
        for thing in NO_KEYS:
            self.refused(NoKey, thing, lambda: self.told([("core", SHARE), ("app", thing), ("x", FREE)]))
        self.refused(NoKey, LOST, lambda: stepped(self.book, unknown_work(), [("app", FREE), ("x", GONE)]))
        self.refused(Stopped, "core", lambda: self.told([("base", FREE), ("app", FREE), ("x", GONE), ("app", GONE)]))

    def test_what_is_handed_in_stays(self):
        steps = [("core", SHARE), ("app", SHARER)]
        self.told(steps)
        self.alike(steps, [("core", SHARE), ("app", SHARER)])
        with self.assertRaises(GrantError):
            self.told(steps + [("x", FREE)])
        self.assertEqual((show_book(self.book), self.work.told()), (show_book(sample_book()), sample_work().told()))

    def test_by_chance(self):
        chance = random.Random(72)
        for turn in range(80):
            book = any_book(chance, chance.randrange(2, 13))
            work = any_work(chance, book.all_keys(), chance.randrange(1, 31))
            steps, behind = any_steps(chance, book, work, 6)
            self.alike(stepped(book, work, steps).told(), behind.told())


class WholeChoice(Refusing):
    """Points 73 and 74."""

    def setUp(self):
        self.book, self.work = sample_book(), sample_work()

    def test_the_choice_is_one_of_the_work_ahead(self):
        steps = [("deep", SHARE), ("core", SHARE), ("art", FREE)]
        for key in (SHARE, SHARER):
            choice = whole_choice(self.book, self.work, steps, key)
            self.assertEqual(choice, {"core": SHARE, "clock": SHUT, "deep": SHARE, "art": FREE, "base": FREE})
            self.assertIs(choice_fits(self.book, self.work, key, choice), True)

    def test_without_steps(self):
        choice = whole_choice(self.book, self.work, [], SHARE)
        self.assertIs(choice_fits(self.book, self.work, SHARE, choice), True)
        self.alike(whole_choice(self.book, Part("a"), [], SHUT), {})

    def test_all_steps_up_to_the_top(self):
        choice = whole_choice(self.book, self.work, [("core", SHARE), ("app", SHARER)], SHARER)
        self.assertIs(choice_fits(self.book, self.work, SHARER, choice), True)

    def test_refused_as_the_steps_are(self):
        for thing in (None, (), {}, "x", [1], [["core", SHARE]], [("core",)]):
            for key in (SHARE, GONE, None):
                self.refused(NoSteps, thing, lambda: whole_choice(self.book, self.work, thing, key))
                self.refused(NoSteps, thing, lambda: whole_choice(self.book, unknown_work(), thing, key))
        for key in (FREE, GONE, None):
            self.refused(NoPart, "deep", lambda: whole_choice(self.book, self.work, [("core", SHARE), ("deep", SHARE)], key))
            self.refused(NoKey, LOST, lambda: whole_choice(self.book, unknown_work(), [("b", FREE)], key))
            self.refused(Stopped, "clock", lambda: whole_choice(self.book, self.work, [("clock", FREE)], key))

    def test_then_the_key_and_the_work_behind(self):
        for thing in NO_KEYS:
            self.refused(NoKey, thing, lambda: whole_choice(self.book, self.work, [("core", SHARE)], thing))
            self.refused(NoKey, thing, lambda: whole_choice(self.book, unknown_work(), [], thing))
        self.refused(NoKey, LOST, lambda: whole_choice(self.book, unknown_work(), [], FREE))

    def test_then_the_first_part_behind_that_stops_it(self):
        self.refused(Stopped, "core", lambda: whole_choice(self.book, self.work, [], FREE))
        work = Part("a", None, [("joined", Part("b", [FREE])), ("joined", Part("c", [FREE], [("called", Part("d"))]))])
        self.assertEqual(least_choice(self.book, work, FREE), {"b": FREE, "c": FREE})
        # Ahead of the steps nothing stops free; behind them first c does, and then b.
        self.refused(Stopped, "c", lambda: whole_choice(self.book, work, [("c", MILD)], FREE))
        self.refused(Stopped, "b", lambda: whole_choice(self.book, work, [("c", MILD), ("b", MILD)], FREE))
        self.refused(Stopped, "a", lambda: whole_choice(self.book, work, [("c", MILD), ("a", MILD)], FREE))

    def test_the_dict_is_the_askers_own(self):
        before = dict(whole_choice(self.book, self.work, [("core", SHARE)], SHARE))
        whole_choice(self.book, self.work, [("core", SHARE)], SHARE).clear()
        self.assertEqual(whole_choice(self.book, self.work, [("core", SHARE)], SHARE), before)
        self.assertEqual((show_book(self.book), self.work.told()), (show_book(sample_book()), sample_work().told()))

    def test_what_is_told_behind_is_told_ahead(self):
        chance = random.Random(73)
        held = 0
        for turn in range(150):
            book = any_book(chance, chance.randrange(2, 13))
            work = any_work(chance, book.all_keys(), chance.randrange(1, 13))
            steps, behind = any_steps(chance, book, work, chance.randrange(1, 6))
            ahead = told_keys(book, work)
            for key in book.all_keys():
                stopping = stops(book, behind, key)
                if stopping:
                    self.refused(Stopped, stopping[0][0], lambda: whole_choice(book, work, steps, key))
                else:
                    held += 1
                    self.assertIn(key, ahead)
                    choice = whole_choice(book, work, steps, key)
                    self.assertIs(choice_fits(book, work, key, choice), True)
        self.assertGreater(held, 100)

    def test_two_steps_are_exchanged(self):
        chance = random.Random(74)
        held = 0
        for turn in range(60):
            book = any_book(chance, 6)
            work = any_work(chance, book.all_keys(), 9)
            for one, other in itertools.permutations(work.all_names(), 2):
                apart = one not in work.at(other).all_names() and other not in work.at(one).all_names()
                keys = told_keys(book, work.at(one)), told_keys(book, work.at(other))
                if apart and keys[0] and keys[1]:
                    held += 1
                    steps = [(one, chance.choice(keys[0])), (other, chance.choice(keys[1]))]
                    self.alike(stepped(book, work, steps).told(), stepped(book, work, steps[::-1]).told())
        self.assertGreater(held, 100)

    def test_given_on_again(self):
        chance = random.Random(75)
        seen = set()
        for turn in range(60):
            book = any_book(chance, 6)
            work = any_work(chance, book.all_keys(), 5)
            for name in work.all_names():
                for key in told_keys(book, work.at(name)):
                    lets_all = book.licence(key).lets % 16 == 15
                    once = given_on(book, work, name, key)
                    due = book.coverers(key) if lets_all else []
                    again = [other for other in book.all_keys() if not stops(book, once.at(name), other)]
                    self.assertEqual(again, due)
                    seen.add((lets_all, len(due) > 1))
                    for other in again:
                        self.alike(given_on(book, once, name, other).told(), given_on(book, work, name, other).told())
        self.assertEqual(len(seen), 3)


if __name__ == "__main__":
    unittest.main()
