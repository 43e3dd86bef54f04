"""Points 24 and 25, and 2, 3, 6 and 7 where they speak of books: making a book, and what it tells."""

import itertools
import unittest

from grantweave.book import Book
from grantweave.errors import BadAsks, BadTerms, Doubled, NoKey, NoWord, TooMany
from grantweave.licences import Licence, Terms
from tests.helping import ODD_THINGS, Refusing, licence

SIX = ["open", "named", "kept", "shown", "paid", "z"]
SEVEN = SIX + ["abcdefgh"]
NO_LISTS = [thing for thing in ODD_THINGS if not isinstance(thing, (list, tuple))] + ["strings", "a"]
NO_WORDS = [thing for thing in ODD_THINGS if not isinstance(thing, str)] + ["", "A", "a1", "a b", " a", "a\n", "abcdefghi",
                                                                           "a.1", ";", "-"]
NO_LICENCES = [thing for thing in ODD_THINGS if not isinstance(thing, Licence)] + [("share", 2), Terms(31, 0, 0, 3),
                                                                                 licence().told(), Book([], [], [])]
NO_KEYS = ODD_THINGS + [("b", 3), ("share", 0), ("share", 3), ("share", True), ("free", True), ["share", 2], ["free", 1],
                        "share", "free.1", ("Share", 2), (("share", 2),), {("share", 2): True}, ("share", "2"), ("share", None)]


def free(number):
    return licence(("free", number))


def twelve():
    return [free(number) for number in range(12)]


class Names(Refusing):
    def both(self, error, held, names):
        self.refused(error, held, lambda: Book(names, [], []))
        self.refused(error, held, lambda: Book([], names, []))

    def test_what_is_no_list_or_tuple(self):
        for thing in NO_LISTS:
            self.both(NoWord, thing, thing)

    def test_six_names_are_let_by(self):
        for names in (SIX, tuple(SIX)):
            self.assertEqual(Book(names, [], []).string_names(), SIX)
            self.assertEqual(Book([], names, []).duty_names(), SIX)

    def test_seven_names_and_more(self):
        for many in (7, 8, 40):
            for kind in (list, tuple):
                self.both(TooMany, many, kind((SEVEN * 6)[:many]))

    def test_how_many_comes_ahead_of_what_they_are(self):
        self.both(TooMany, 7, [None] * 7)
        self.both(TooMany, 7, ("a",) * 7)

    def test_a_name_that_is_no_word(self):
        for thing in NO_WORDS:
            for place in range(4):
                names = ["a", "b", "c"]
                names.insert(place, thing)
                self.both(NoWord, thing, names)
                self.both(NoWord, thing, tuple(names))

    def test_a_word_that_stands_twice(self):
        self.both(Doubled, "a", ["a", "a"])
        self.both(Doubled, "b", ("a", "b", "c", "b", "a"))
        self.both(Doubled, "b", ["a", "b", "b", "a", "a", "a"])

    def test_name_by_name(self):
        self.both(Doubled, "a", ["a", "a", None])
        self.both(NoWord, None, ["a", None, "a"])
        self.both(NoWord, "A", ["A", "A"])
        self.both(NoWord, 5, ["a", 5, 6])

    def test_a_string_and_a_duty_may_have_the_same_name(self):
        book = Book(SIX, SIX, [])
        self.assertEqual((book.string_names(), book.duty_names()), (SIX, SIX))

    def test_strings_ahead_of_duties_ahead_of_licences(self):
        for bad, error, held in ((None, NoWord, None), (SEVEN, TooMany, 7), (["A"], NoWord, "A"), (["a", "a"], Doubled, "a")):
            for other in (5, ["q", "q"], ["b"] * 8, [7]):
                self.refused(error, held, lambda: Book(bad, other, []))
                self.refused(error, held, lambda: Book(bad, other, None))
            for licences in (None, twelve() + [None], [free(1), free(1)], [5]):
                self.refused(error, held, lambda: Book([], bad, licences))


class Licences(Refusing):
    def bad(self, error, held, licences, strings=("s",), duties=("d",)):
        self.refused(error, held, lambda: Book(strings, duties, licences))
        self.refused(error, held, lambda: Book(strings, duties, tuple(licences)))

    def test_what_is_no_list_or_tuple(self):
        for thing in NO_LISTS:
            self.refused(NoKey, thing, lambda: Book([], [], thing))

    def test_twelve_are_let_by(self):
        for licences in (twelve(), tuple(twelve())):
            self.assertEqual(Book([], [], licences).all_keys(), [("free", number) for number in range(12)])

    def test_thirteen_and_more(self):
        for many in (13, 14, 60):
            self.bad(TooMany, many, [free(number) for number in range(many)])
            self.bad(TooMany, many, [None] * many)
            self.bad(TooMany, many, [free(1)] * many)

    def test_what_is_no_licence(self):
        for thing in NO_LICENCES:
            for place in range(3):
                licences = [free(1), free(2)]
                licences.insert(place, thing)
                self.bad(NoKey, thing, licences)

    def test_a_key_that_stands_twice(self):
        self.bad(Doubled, ("free", 1), [free(1), free(1)])
        self.bad(Doubled, ("free", 1), [free(1), free(2), licence(("free", 1), lets=31), free(2)])
        self.bad(Doubled, ("free", 2), [free(1), free(2), free(3), free(2), free(1)])

    def test_keys_alike_in_one_half_are_unlike(self):
        keys = [("free", 1), ("free", 2), ("share", 1), ("share", 2)]
        self.assertEqual(Book([], [], [licence(key) for key in keys]).all_keys(), keys)

    def test_strings_that_are_named(self):
        for many in range(7):
            for mask in range(64):
                laid, barred = licence(strings=mask), licence(bars=mask)
                if mask < 2 ** many:
                    self.assertEqual(Book(SIX[:many], [], [laid]).licence(("share", 2)).strings, mask)
                    self.assertEqual(Book(SIX[:many], [], [barred]).licence(("share", 2)).bars, mask)
                else:
                    self.bad(BadTerms, ("share", 2), [laid], SIX[:many], SIX)
                    self.bad(BadTerms, ("share", 2), [barred], SIX[:many], SIX)

    def test_duties_that_are_named(self):
        for many in range(7):
            for mask in range(64):
                for asks in ([0, 0, 0, mask], [0, 0, mask, mask], [0, mask, mask, mask], [mask] * 4):
                    one = licence(asks=asks)
                    if mask < 2 ** many:
                        self.assertEqual(Book([], SIX[:many], [one]).licence(("share", 2)).asks, tuple(asks))
                    else:
                        self.bad(BadAsks, ("share", 2), [one], SIX, SIX[:many])

    def test_the_order_of_one_licence(self):
        self.bad(BadTerms, ("free", 1), [licence(("free", 1), strings=2, asks=[2] * 4)])
        self.bad(BadTerms, ("free", 1), [licence(("free", 1), bars=2, asks=[0, 0, 0, 2])])
        self.bad(BadAsks, ("free", 1), [licence(("free", 1), strings=1, asks=[2] * 4)])
        self.bad(Doubled, ("free", 1), [free(1), licence(("free", 1), strings=2, asks=[2] * 4)])
        self.bad(Doubled, ("free", 1), [free(1), licence(("free", 1), asks=[2] * 4)])

    def test_licence_by_licence(self):
        faults = [(NoKey, 5, 5), (Doubled, ("free", 0), free(0)), (BadTerms, ("b", 1), licence(("b", 1), bars=2)),
                  (BadAsks, ("c", 1), licence(("c", 1), asks=[0, 2, 2, 2]))]
        for many in range(1, 5):
            for row in itertools.permutations(faults, many):
                error, held, thing = row[0]
                self.bad(error, held, [free(0)] + [fault[2] for fault in row] + [free(9)])


class Telling(Refusing):
    def setUp(self):
        self.licences = [
            licence(("free", 1), lets=31, reach=3),
            licence(("share", 1), lets=15, strings=1, reach=2, same=True, asks=[0, 1, 1, 3]),
            licence(("share", 2), lets=15, strings=1, reach=2, same=True),
            licence(("open", 1), lets=31, strings=1, bars=2, reach=2),
            licence(("free", 2), lets=31, reach=3),
        ]
        self.book = Book(["s", "t", "s" * 8], ["d", "s"], self.licences)
        self.keys = [one.key for one in self.licences]

    def test_names_and_keys_in_their_order(self):
        self.assertEqual(self.book.string_names(), ["s", "t", "ssssssss"])
        self.assertEqual(self.book.duty_names(), ["d", "s"])
        self.assertEqual(self.book.all_keys(), self.keys)
        other = Book(["t", "s", "a"], ["s", "d"], self.licences[::-1])
        self.assertEqual(other.string_names(), ["t", "s", "a"])
        self.assertEqual(other.duty_names(), ["s", "d"])
        self.assertEqual(other.all_keys(), self.keys[::-1])

    def test_a_book_is_made_by_the_names_of_its_arguments(self):
        book = Book(licences=self.licences, duties=["d", "e"], strings=["s", "t"])
        self.assertEqual((book.string_names(), book.duty_names(), book.all_keys()), (["s", "t"], ["d", "e"], self.keys))

    def test_the_book_of_nothing(self):
        for nothing in ([], ()):
            book = Book(nothing, nothing, nothing)
            self.alike([book.string_names(), book.duty_names(), book.all_keys()], [[], [], []])
            self.refused(NoKey, ("free", 1), lambda: book.licence(("free", 1)))
            self.refused(NoKey, ("free", 1), lambda: book.coverers(("free", 1)))

    def test_the_licence_of_each_key(self):
        for one in self.licences:
            self.assertIsInstance(self.book.licence(one.key), Licence)
            self.alike(self.book.licence(one.key).told(), one.told())
            self.alike(self.book.licence(tuple(list(one.key))).told(), one.told())

    def test_which_keys_cover_it(self):
        self.alike(self.book.coverers(("free", 1)), self.keys)
        self.alike(self.book.coverers(("free", 2)), self.keys)
        self.alike(self.book.coverers(("share", 1)), [("share", 1), ("share", 2)])
        self.alike(self.book.coverers(("share", 2)), [("share", 2)])
        self.alike(self.book.coverers(("open", 1)), [("open", 1)])

    def test_the_coverers_are_in_the_order_of_the_book(self):
        book = Book(["s", "t"], ["d", "e"], self.licences[::-1])
        self.alike(book.coverers(("share", 1)), [("share", 2), ("share", 1)])
        self.alike(book.coverers(("free", 2)), self.keys[::-1])

    def test_what_is_no_key_of_the_book(self):
        for thing in NO_KEYS:
            self.refused(NoKey, thing, lambda: self.book.licence(thing))
            self.refused(NoKey, thing, lambda: self.book.coverers(thing))

    def test_what_is_handed_in_stays_and_is_a_copy(self):
        strings, duties, licences = ["s", "t"], ["d", "e"], list(self.licences)
        before = (list(strings), list(duties), list(licences))
        book = Book(strings, duties, licences)
        self.assertEqual((strings, duties, licences), before)
        strings.append("u")
        duties[0] = "x"
        licences.clear()
        self.assertEqual((book.string_names(), book.duty_names(), book.all_keys()), (["s", "t"], ["d", "e"], self.keys))
        self.assertEqual(book.coverers(("share", 1)), [("share", 1), ("share", 2)])

    def test_lists_that_are_told_are_the_askers_own(self):
        asks = [self.book.string_names, self.book.duty_names, self.book.all_keys,
                lambda: self.book.coverers(("free", 1))]
        for ask in asks:
            before = list(ask())
            told = ask()
            told.reverse()
            told.append("x")
            self.alike(ask(), before)
            ask().clear()
            self.alike(ask(), before)
        self.assertEqual(self.book.licence(("free", 1)).told(), self.licences[0].told())

    def test_books_made_alike_tell_alike(self):
        other = Book(("s", "t", "s" * 8), ("d", "s"), tuple(self.licences))
        self.assertEqual(other.all_keys(), self.book.all_keys())
        for key in self.keys:
            self.assertEqual(other.coverers(key), self.book.coverers(key))
            self.assertEqual(other.licence(key).told(), self.book.licence(key).told())

    def test_two_books_have_nothing_in_common(self):
        names = ["s", "t"]
        one, other = Book(names, names, self.licences), Book(names, names, self.licences)
        one.string_names().append("u")
        one.all_keys().clear()
        self.assertEqual((other.string_names(), other.duty_names(), other.all_keys()), (names, names, self.keys))


class Covering(unittest.TestCase):
    """Point 3 over many books: a licence covers itself, and covering goes on through a third one."""

    def test_coverers_by_the_words_of_the_document(self):
        masks = [(0, 0), (1, 0), (0, 1), (3, 0)]
        fields = [(lets, strings, bars, reach, same) for lets in (3, 7) for strings, bars in masks
                  for reach in (1, 2) for same in (False, True)]
        keys = [(word, number) for number in range(3) for word in ("a", "b")]
        for start in range(0, len(fields)):
            chosen = [fields[(start + 5 * step) % len(fields)] for step in range(12)]
            licences = [licence((keys[place % 6][0], place), *four) for place, four in enumerate(chosen)]
            book = Book(["s", "t"], [], licences)
            for one in licences:
                due = [other.key for other in licences if self.covers(other, one)]
                self.assertEqual(book.coverers(one.key), due)
                self.assertIn(one.key, due)
                for key in due:
                    self.assertLessEqual(set(book.coverers(key)), set(due))

    def covers(self, one, other):
        if one.lets & ~other.lets or other.strings & ~one.strings or other.bars & ~one.bars:
            return False
        if one.reach > other.reach:
            return False
        later = one.same and one.key[0] == other.key[0] and one.key[1] >= other.key[1]
        return later or not other.same


if __name__ == "__main__":
    unittest.main()
