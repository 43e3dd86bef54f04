"""Points 105 and 106, and 6 and 7 where they speak of them: the least price at which a licence is told."""

import itertools
import random
import unittest

from grantweave.book import Book
from grantweave.booktext import show_book
from grantweave.changes import rejoined
from grantweave.errors import NoKey, NoPrice
from grantweave.prices import loosened
from grantweave.whole import stops, told_keys
from grantweave.works import Part
from tests.helping import NO_KEYS, ODD_THINGS, Refusing, any_book, any_work, due_fault, licence, part_name

FREE, SHARE, SHUT, FAR = ("free", 1), ("share", 1), ("shut", 1), ("far", 1)
GONE, LOST = ("gone", 1), ("lost", 2)
NO_PRICES = [thing for thing in ODD_THINGS if thing is True or thing is False or thing not in (0, 1)] + [10 ** 6 + 1, "5", [5], (5,)]


def sample_book():
    """Share lays a string on from joined on; shut lets use alone; far lays the string on even where it is called."""
    return Book(["open"], [], [licence(FREE, 31, reach=3), licence(SHARE, 31, 1, reach=2), licence(SHUT, 1, reach=3),
                               licence(FAR, 31, 1, reach=0)])


def sample_work():
    """Deep, mid and art stop free; clock doesn't."""
    beneath = [("called", Part("clock", [SHARE])), ("changed", Part("deep", [SHARE, SHUT])), ("joined", Part("mid", [SHARE]))]
    core = Part("core", None, beneath)
    return Part("app", [FREE], [("joined", core), ("beside", Part("art", [SHUT])), ("changed", Part("base"))])


def priced(core=0, clock=0, deep=0, mid=0, art=0, base=0):
    return {"core": core, "clock": clock, "deep": deep, "mid": mid, "art": art, "base": base}


def rows_of(work):
    """For each part the names on its row of joins, by point 4."""
    return {name: [lower for join, lower in work.road(name)] for name in work.all_names()}


def least_by_all_sets(work, stopping, prices):
    names, rows = work.all_names()[1:], rows_of(work)
    best = None
    for many in range(len(names) + 1):
        for loose in itertools.combinations(names, many):
            if all(any(name in loose for name in rows[part]) for part in stopping):
                price = sum(prices[name] for name in loose)
                best = price if best is None else min(best, price)
    return best


def with_loose(work, names):
    for name in names:
        work = rejoined(work, name, "called")
    return work


class Held(Refusing):
    def held(self, book, work, key, prices):
        """What is told must hold by the words of points 105 and 106; told is all of it."""
        told = loosened(book, work, key, prices)
        self.assertIs(type(told), tuple)
        stopping = [name for name, faults in stops(book, work, key)]
        other = book.licence(key)
        if not stopping:
            self.alike(told, ("told",))
            return told
        for name in stopping:
            closeness = 3 if name == work.name else 0
            faults = [(offer, due_fault(book.licence(offer), closeness, other)) for offer in work.at(name).offers]
            if None not in [fault for offer, fault in faults]:
                self.alike(told, ("never", name, faults))
                return told
        self.assertEqual((told[0], len(told)), ("loose", 4))
        self.held_loose(book, work, key, prices, stopping, told[1:])
        return told

    def held_loose(self, book, work, key, prices, stopping, told):
        total, names, shares = told
        self.assertEqual((type(total), type(names), type(shares)), (int, list, dict))
        rows = rows_of(work)
        self.assertEqual(len(set(names)), len(names))
        self.assertLessEqual(set(names), set(work.all_names()[1:]))
        self.assertEqual(sum(prices[name] for name in names), total)
        for part in stopping:
            self.assertTrue(set(rows[part]) & set(names))
        self.assertIn(key, told_keys(book, with_loose(work, names)))
        self.assertEqual(set(shares), set(stopping))
        for part in shares:
            self.assertIs(type(shares[part]), int)
            self.assertGreaterEqual(shares[part], 0)
        for name in work.all_names()[1:]:
            self.assertLessEqual(sum(shares.get(lower, 0) for lower in work.at(name).all_names()), prices[name])
        self.assertEqual(sum(shares.values()), total)


class Told(Held):
    """Point 105."""

    def test_told_as_it_stands(self):
        work = Part("a", [FREE], [("joined", Part("b", [SHARE]))])
        self.alike(loosened(sample_book(), work, SHARE, {"b": 7}), ("told",))
        self.alike(loosened(sample_book(), Part("a", [FREE]), SHARE, {}), ("told",))
        self.alike(loosened(sample_book(), Part("a"), SHUT, {}), ("told",))

    def test_the_top_never_is(self):
        work = Part("a", [SHARE], [("joined", Part("b", [SHARE])), ("called", Part("c", [FAR]))])
        self.alike(loosened(sample_book(), work, FREE, {"b": 1, "c": 1}), ("never", "a", [(SHARE, ("string", 0))]))
        work = Part("a", [SHUT, SHARE])
        self.alike(loosened(sample_book(), work, FREE, {}), ("never", "a", [(SHUT, ("deed", 1)), (SHARE, ("string", 0))]))

    def test_a_part_that_stops_it_even_where_it_is_called(self):
        work = Part("a", None, [("joined", Part("b", [SHARE])), ("joined", Part("c", [FAR])), ("called", Part("d", [FAR]))])
        self.alike(loosened(sample_book(), work, FREE, {"b": 1, "c": 1, "d": 1}), ("never", "c", [(FAR, ("string", 0))]))
        book = Book(["open"], [], [licence(FREE, 31), licence(SHUT, 0), licence(FAR, 31, 1)])
        work = Part("a", None, [("changed", Part("b", [FAR, SHUT]))])
        self.alike(loosened(book, work, FREE, {"b": 1}), ("never", "b", [(FAR, ("string", 0)), (SHUT, ("deed", 0))]))

    def test_faults_are_those_of_closeness_nought(self):
        # As it stands the fault of shut is another one.
        book = Book(["open"], [], [licence(FREE, 31), licence(SHUT, 1, 1)])
        work = Part("a", None, [("changed", Part("b", [SHUT]))])
        self.alike(stops(book, work, FREE), [("b", [(SHUT, ("deed", 1))])])
        self.alike(loosened(book, work, FREE, {"b": 1}), ("never", "b", [(SHUT, ("lets", 1))]))

    def test_one_part_that_is_loosened(self):
        work = Part("a", None, [("changed", Part("b", [SHARE]))])
        for price in (0, 1, 10 ** 6 - 1, 10 ** 6):
            self.alike(loosened(sample_book(), work, FREE, {"b": price}), ("loose", price, ["b"], {"b": price}))

    def test_the_part_itself_or_one_above(self):
        work = Part("a", None, [("changed", Part("b", None, [("changed", Part("c", [SHARE]))]))])
        self.alike(loosened(sample_book(), work, FREE, {"b": 3, "c": 5}), ("loose", 3, ["b"], {"c": 3}))
        self.alike(loosened(sample_book(), work, FREE, {"b": 5, "c": 3}), ("loose", 3, ["c"], {"c": 3}))
        # Where the one above stops it, too, what is beneath it doesn't help.
        work = Part("a", None, [("changed", Part("b", [SHARE], [("changed", Part("c", [SHARE]))]))])
        for prices in ({"b": 3, "c": 5}, {"b": 5, "c": 3}, {"b": 10 ** 6, "c": 0}):
            told = self.held(sample_book(), work, FREE, prices)
            self.alike(told[:3], ("loose", prices["b"], ["b"]))

    def test_a_whole_work(self):
        book, work = sample_book(), sample_work()
        self.assertEqual([name for name, faults in stops(book, work, FREE)], ["deep", "mid", "art"])
        told = self.held(book, work, FREE, priced(core=9, clock=1, deep=5, mid=5, art=2, base=1))
        self.assertEqual((told[1], sorted(told[2])), (11, ["art", "core"]))
        told = self.held(book, work, FREE, priced(core=9, clock=1, deep=5, mid=3, art=2, base=1))
        self.assertEqual((told[1], sorted(told[2])), (10, ["art", "deep", "mid"]))
        told = self.held(book, work, FREE, priced(core=10, deep=5, mid=5, art=0))
        self.assertEqual(told[1], 10)

    def test_prices_of_nought(self):
        told = self.held(sample_book(), sample_work(), FREE, priced())
        self.assertEqual(told[1], 0)
        self.assertEqual(told[3], {"deep": 0, "mid": 0, "art": 0})
        told = self.held(sample_book(), sample_work(), FREE, priced(core=4, deep=0, mid=3, art=0))
        self.assertEqual(told[1], 3)

    def test_dear_prices(self):
        dear = 10 ** 6
        told = self.held(sample_book(), sample_work(), FREE, priced(dear, dear, dear, dear, dear, dear))
        self.assertEqual(told[1], 2 * dear)
        parts = [("changed", Part(part_name(number), [SHARE])) for number in range(6)]
        told = self.held(sample_book(), Part("top", None, parts), FREE, {part.name: dear for join, part in parts})
        self.assertEqual(told[1], 6 * dear)

    def test_what_else_stands_in_the_dict(self):
        prices = dict(priced(9, 1, 5, 5, 2, 1))
        prices.update({"app": None, "other": -5, 7: [], None: "x", True: 10 ** 7})
        self.assertEqual(self.held(sample_book(), sample_work(), FREE, prices)[1], 11)

    def test_by_all_sets_of_small_works(self):
        chance = random.Random(105)
        seen = {}
        for turn in range(150):
            book = any_book(chance, chance.randrange(2, 13))
            work = any_work(chance, book.all_keys(), chance.randrange(2, 9))
            most = chance.choice([2, 5, 100, 10 ** 6])
            prices = {name: chance.randrange(most + 1) for name in work.all_names()[1:]}
            for key in book.all_keys():
                told = self.held(book, work, key, prices)
                seen[told[0]] = seen.get(told[0], 0) + 1
                if told[0] == "loose":
                    stopping = [name for name, faults in stops(book, work, key)]
                    self.assertEqual(told[1], least_by_all_sets(work, stopping, prices))
        self.assertEqual(set(seen), {"told", "never", "loose"})
        self.assertGreater(min(seen.values()), 30)

    def test_no_other_joins_that_make_it_told_are_cheaper(self):
        chance = random.Random(106)
        seen = 0
        for turn in range(60):
            book = any_book(chance, 6)
            work = any_work(chance, book.all_keys(), 5)
            prices = {name: chance.randrange(6) for name in work.all_names()[1:]}
            for key in book.all_keys():
                told = loosened(book, work, key, prices)
                if told[0] != "loose":
                    continue
                for many in range(len(prices) + 1):
                    for names in itertools.combinations(prices, many):
                        if key in told_keys(book, with_loose(work, names)):
                            seen += 1
                            self.assertGreaterEqual(sum(prices[name] for name in names), told[1])
        self.assertGreater(seen, 30)

    def test_great_works(self):
        chance = random.Random(107)
        for turn in range(30):
            work = any_work(chance, [SHARE, FREE], 30)
            prices = {name: chance.randrange(10 ** 6 + 1) for name in work.all_names()[1:]}
            self.held(sample_book(), work, FREE, prices)


class Refused(Held):
    """Point 106."""

    def test_as_stops_is(self):
        unknown = Part("a", [SHARE], [("called", Part("b", [FREE, LOST])), ("called", Part("c", [GONE]))])
        for thing in NO_KEYS:
            for work in (sample_work(), unknown):
                for prices in (priced(), None, {}):
                    self.refused(NoKey, thing, lambda: loosened(sample_book(), work, thing, prices))
        for prices in ({"b": 1, "c": 1}, None, {}):
            self.refused(NoKey, LOST, lambda: loosened(sample_book(), unknown, FREE, prices))

    def test_what_is_no_dict(self):
        for thing in ODD_THINGS + [list(priced().items()), tuple(priced()), 5, "core"]:
            if not isinstance(thing, dict):
                for key in sample_book().all_keys():
                    self.refused(NoPrice, thing, lambda: loosened(sample_book(), sample_work(), key, thing))
                self.refused(NoPrice, thing, lambda: loosened(sample_book(), Part("a"), FREE, thing))

    def test_the_first_part_without_a_price(self):
        names = ["core", "clock", "deep", "mid", "art", "base"]
        for place, name in enumerate(names):
            for key in sample_book().all_keys():
                left = {other: 1 for other in names if other != name}
                self.refused(NoPrice, name, lambda: loosened(sample_book(), sample_work(), key, left))
                self.refused(NoPrice, name, lambda: loosened(sample_book(), sample_work(), key, {other: 1 for other in names[:place]}))
        self.refused(NoPrice, "core", lambda: loosened(sample_book(), sample_work(), FREE, {}))

    def test_what_is_no_price(self):
        names = ["core", "clock", "deep", "mid", "art", "base"]
        for thing in NO_PRICES:
            for place, name in enumerate(names):
                self.refused(NoPrice, name, lambda: loosened(sample_book(), sample_work(), FREE, dict(priced(), **{name: thing})))
                spoilt = dict(priced(), **{other: thing for other in names[place:]})
                self.refused(NoPrice, name, lambda: loosened(sample_book(), sample_work(), FREE, spoilt))

    def test_also_where_it_is_told_or_never_is(self):
        work = Part("a", [FREE], [("joined", Part("b", [SHARE]))])
        self.refused(NoPrice, "b", lambda: loosened(sample_book(), work, SHARE, {}))
        work = Part("a", [SHARE], [("joined", Part("b", [SHARE]))])
        self.refused(NoPrice, "b", lambda: loosened(sample_book(), work, FREE, {"b": True}))

    def test_what_is_handed_in_stays_and_what_is_told_is_the_askers_own(self):
        book, work, prices = sample_book(), sample_work(), priced(9, 1, 5, 5, 2, 1)
        before = loosened(book, work, FREE, prices)
        told = loosened(book, work, FREE, prices)
        told[2].clear()
        told[3].clear()
        self.alike(loosened(book, work, FREE, prices), before)
        self.alike(prices, priced(9, 1, 5, 5, 2, 1))
        never = loosened(book, Part("a", [SHARE]), FREE, {})
        never[2].clear()
        self.alike(loosened(book, Part("a", [SHARE]), FREE, {}), ("never", "a", [(SHARE, ("string", 0))]))
        self.assertEqual((show_book(book), work.told()), (show_book(sample_book()), sample_work().told()))


if __name__ == "__main__":
    unittest.main()
