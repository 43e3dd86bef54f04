"""Points 111 to 116, and 6 where it speaks of them: folders of notices."""

import itertools
import random
import unittest

from grantweave.book import Book
from grantweave.booktext import show_book
from grantweave.duties import due_rows, least_choice
from grantweave.errors import BadText, NoChoice, NoKey
from grantweave.folders import folder_of, left_out, lets_by, read_folder, show_folder, spare
from grantweave.whole import told_keys
from grantweave.works import Part
from tests.helping import NO_KEYS, ODD_THINGS, Refusing, any_book, any_work, licence

FREE, SHARE, SHUT = ("free", 1), ("share", 2), ("shut", 1)
GONE, LOST = ("gone", 1), ("lost", 2)


def sample_book():
    return Book(["open"], ["names", "copy", "mail"], [
        licence(FREE, 31, reach=3, asks=[0, 1, 1, 3]), licence(SHARE, 31, 1, reach=2, asks=[4, 5, 7, 7]), licence(SHUT, 1, reach=3)])


def sample_work():
    """Closeness: app 3, lib 2, core 1, clock 0; the row of joins of core has two pairs."""
    lib = Part("lib", [FREE, SHARE], [("beside", Part("core", [SHARE, FREE])), ("called", Part("clock", [SHUT]))])
    return Part("app", [FREE], [("joined", lib)])


CHOICE = {"lib": SHARE, "core": SHARE, "app": FREE, "clock": SHUT}
TO_LIB, TO_CORE = (("joined", "lib"),), (("joined", "lib"), ("beside", "core"))
ROWS = [("names", "app", FREE, ()), ("names", "lib", SHARE, TO_LIB), ("names", "core", SHARE, TO_CORE), ("copy", "app", FREE, ()),
        ("copy", "lib", SHARE, TO_LIB), ("mail", "lib", SHARE, TO_LIB), ("mail", "core", SHARE, TO_CORE)]
TEXT = """under share.2
take app free.1
take clock shut.1
take core share.2
take lib share.2
owe names app free.1
owe names lib share.2 joined lib
owe names core share.2 joined lib beside core
owe copy app free.1
owe copy lib share.2 joined lib
owe mail lib share.2 joined lib
owe mail core share.2 joined lib beside core"""
SPARE = [("names", "gone", ("x", 99), ()), ("mail", "app", FREE, TO_LIB), ("fax", "core", SHARE, TO_CORE), ("names", "core", FREE, TO_CORE)]


def unknown_work():
    return Part("app", [FREE], [("called", Part("core", [FREE, LOST])), ("called", Part("art", [GONE]))])


class Made(Refusing):
    """Point 111."""

    def test_a_whole_folder(self):
        self.alike(folder_of(sample_book(), sample_work(), SHARE, CHOICE), (SHARE, CHOICE, ROWS))

    def test_a_work_without_offers_or_duties(self):
        self.alike(folder_of(sample_book(), Part("a"), FREE, {}), (FREE, {}, []))
        work = Part("a", None, [("called", Part("b", [SHUT]))])
        self.alike(folder_of(sample_book(), work, FREE, {"b": SHUT}), (FREE, {"b": SHUT}, []))

    def test_refused(self):
        book, work = sample_book(), sample_work()
        for thing in NO_KEYS:
            for choice in (CHOICE, None):
                self.refused(NoKey, thing, lambda: folder_of(book, work, thing, choice))
                self.refused(NoKey, thing, lambda: folder_of(book, unknown_work(), thing, choice))
        self.refused(NoKey, LOST, lambda: folder_of(book, unknown_work(), FREE, None))
        for thing in ODD_THINGS + [dict(CHOICE, clock=("shut", True)), dict(CHOICE, more=FREE), list(CHOICE.items())]:
            self.refused(NoChoice, thing, lambda: folder_of(book, work, SHARE, thing))
        self.refused(NoChoice, CHOICE, lambda: folder_of(book, work, FREE, CHOICE))

    def test_what_is_handed_in_is_kept_as_a_copy(self):
        choice = dict(CHOICE)
        folder = folder_of(sample_book(), sample_work(), SHARE, choice)
        choice.clear()
        self.alike(folder, (SHARE, CHOICE, ROWS))
        folder[1].clear()
        folder[2].clear()
        self.alike(folder_of(sample_book(), sample_work(), SHARE, CHOICE), (SHARE, CHOICE, ROWS))
        self.assertEqual(len(CHOICE), 4)

    def test_by_the_words_of_the_document(self):
        chance = random.Random(111)
        for turn in range(60):
            book = any_book(chance, chance.randrange(2, 13))
            work = any_work(chance, book.all_keys(), chance.randrange(1, 12))
            for key in told_keys(book, work):
                choice = least_choice(book, work, key)
                due = [row + (tuple(work.road(row[1])),) for row in due_rows(book, work, key, choice)]
                self.alike(folder_of(book, work, key, choice), (key, choice, due))


class Written(Refusing):
    """Points 112 and 113."""

    def test_written(self):
        self.alike(show_folder((SHARE, CHOICE, ROWS)), TEXT)
        self.alike(show_folder((FREE, {}, [])), "under free.1")
        self.alike(show_folder((("a", 0), {}, ROWS[:1])), "under a.0\nowe names app free.1")
        self.alike(show_folder((("a", 99), {"b": ("c", 10)}, [])), "under a.99\ntake b c.10")

    def test_the_rows_of_the_document(self):
        folder = (FREE, {"core": SHARE}, [("names", "core", SHARE, (("joined", "app"), ("beside", "core")))])
        text = "under free.1\ntake core share.2\nowe names core share.2 joined app beside core"
        self.alike(show_folder(folder), text)
        self.alike(read_folder(text), folder)

    def test_names_rise_and_rows_stay(self):
        names = ["b", "a", "ab", "aa", "zz", "aaa"]
        for order in itertools.permutations(names):
            text = show_folder((FREE, {name: SHARE for name in order}, []))
            self.assertEqual(text.split("\n")[1:], ["take " + name + " share.2" for name in ["a", "aa", "aaa", "ab", "b", "zz"]])
        for rows in (ROWS[::-1], ROWS + ROWS[:2], SPARE):
            self.alike(read_folder(show_folder((FREE, {}, rows)))[2], rows)

    def test_read(self):
        told = read_folder(TEXT)
        self.assertEqual((type(told), type(told[1])), (tuple, dict))
        self.assertEqual(told[1], CHOICE)
        self.alike((told[0], told[2]), (SHARE, ROWS))
        for name in told[1]:
            self.alike(told[1][name], CHOICE[name])
        self.alike(read_folder("under free.1"), (FREE, {}, []))

    def test_read_and_written_again(self):
        self.alike(show_folder(read_folder(TEXT)), TEXT)
        chance = random.Random(112)
        for turn in range(60):
            book = any_book(chance, chance.randrange(2, 13))
            work = any_work(chance, book.all_keys(), chance.randrange(1, 12))
            for key in told_keys(book, work):
                folder = folder_of(book, work, key, least_choice(book, work, key))
                text = show_folder(folder)
                self.assertEqual(read_folder(text), folder)
                self.alike(show_folder(read_folder(text)), text)

    def test_a_row_of_joins_of_any_length(self):
        for many in range(40):
            folder = (FREE, {}, [("names", "core", SHARE, (("called", "x"),) * many)])
            self.alike(read_folder(show_folder(folder)), folder)

    def test_a_long_text(self):
        rows = [("n" * 8, "p" * 8, ("k" * 8, 99), (("changed", "q" * 8),) * 5)] * 300
        text = show_folder((FREE, {}, rows))
        self.assertGreater(len(text), 30000)
        self.alike(read_folder(text), (FREE, {}, rows))

    def test_what_is_no_text(self):
        for thing in ODD_THINGS + [(FREE, {}, []), ["under free.1"], (SHARE, CHOICE, ROWS)]:
            if not isinstance(thing, str):
                self.refused(BadText, 0, lambda: read_folder(thing))

    def test_the_first_row(self):
        for row in ("", "under", "under ", "under free", "under free.01", "under free.100", "under free.1 ", " under free.1",
                    "Under free.1",
                    "under free.1 free.1", "under  free.1", "unde free.1", "take core free.1", "owe names app free.1",
                    "under Free.1", "free.1",
                    "under free 1", "under abcdefghi.1", "under .1", "under free.-1", "undertake free.1"):
            for rest in ("", "\ntake core free.1", "\nx"):
                self.refused(BadText, 0, lambda: read_folder(row + rest))

    def test_rows_of_take_that_are_spoilt(self):
        for row in ("", "take", "take core", "take core free", "take core free.01", "take Core free.1", "take core free.1 ",
                    "take  core free.1",
                    "take core free.1 share.2", "take core free.1 joined core", "take free.1", "Take core free.1", "take abcdefghi free.1",
                    " take core free.1", "take c0re free.1", "under free.1", "core free.1", "take core core", "take core free.1x",
                    "take free.1 core"):
            self.refused(BadText, 1, lambda: read_folder("under free.1\n" + row))
            self.refused(BadText, 2, lambda: read_folder("under free.1\ntake a free.1\n" + row + "\nx"))
            self.refused(BadText, 3, lambda: read_folder("under free.1\ntake a free.1\nowe a a free.1\n" + row + "\n"))

    def test_rows_of_owe_that_are_spoilt(self):
        for row in ("owe", "owe names", "owe names core", "owe names core free", "owe names core free.00",
                    "owe Names core free.1", "owe names c0re free.1",
                    "owe names core free.1 joined", "owe names core free.1 joined Core", "owe names core free.1 glued core",
                    "owe names core free.1 core joined",
                    "owe names core free.1 joined core beside", "owe names core free.1 ", "owe  names core free.1",
                    "owe names core free.1 joined core x core",
                    "owe names core free.1 joined abcdefghi", "owe names core free.1  joined core", "Owe names core free.1",
                    "owe free.1 names core",
                    "owe names core free.1 joined core beside a1", "owed names core free.1", "owe names core free.1 free.1",
                    "under a.1", ""):
            self.refused(BadText, 1, lambda: read_folder("under free.1\n" + row))
            self.refused(BadText, 2, lambda: read_folder("under free.1\ntake a free.1\n" + row + "\nx"))
            self.refused(BadText, 3, lambda: read_folder("under free.1\ntake a free.1\nowe a a free.1\n" + row))

    def test_names_of_take_rise(self):
        for one, other in (("a", "a"), ("b", "a"), ("ab", "a"), ("b", "ab"), ("core", "cord")):
            self.refused(BadText, 2, lambda: read_folder("under a.1\ntake " + one + " a.1\ntake " + other + " a.1\nx"))
            self.alike(read_folder("under a.1\ntake a a.1\ntake b a.1\ntake c a.1"), (("a", 1), dict.fromkeys("abc", ("a", 1)), []))
        self.refused(BadText, 3, lambda: read_folder("under a.1\ntake a a.1\ntake c a.1\ntake b a.1"))

    def test_take_behind_owe(self):
        self.refused(BadText, 2, lambda: read_folder("under a.1\nowe names core free.1\ntake core a.1"))
        self.refused(BadText, 3, lambda: read_folder("under a.1\ntake b a.1\nowe a core free.1\ntake c a.1\nx"))

    def test_a_line_feed_at_the_end(self):
        self.refused(BadText, 1, lambda: read_folder("under a.1\n"))
        self.refused(BadText, 12, lambda: read_folder(TEXT + "\n"))
        self.refused(BadText, 0, lambda: read_folder("\n" + TEXT))

    def test_every_word_left_out_or_doubled(self):
        rows = TEXT.split("\n")
        for place, row in enumerate(rows):
            words = row.split(" ")
            for spot in range(len(words)):
                for spoilt in (words[:spot] + words[spot + 1:], words[:spot + 1] + words[spot:]):
                    text = "\n".join(rows[:place] + [" ".join(spoilt)] + rows[place + 1:])
                    self.refused(BadText, place, lambda: read_folder(text))

    def test_whether_there_is_such_a_part_is_not_looked_at(self):
        text = "under zz.9\ntake nobody zz.8\nowe nothing nowhere zz.7 called off\nowe a a a.1\nowe a a a.1"
        rows = [("nothing", "nowhere", ("zz", 7), (("called", "off"),)), ("a", "a", ("a", 1), ()), ("a", "a", ("a", 1), ())]
        self.alike(read_folder(text), (("zz", 9), {"nobody": ("zz", 8)}, rows))

    def test_what_is_handed_in_stays(self):
        folder = (SHARE, dict(CHOICE), list(ROWS))
        show_folder(folder)
        self.alike(folder, (SHARE, CHOICE, ROWS))


class LookedThrough(Refusing):
    """Points 114 and 116."""

    def setUp(self):
        self.book, self.work = sample_book(), sample_work()

    def told(self, rows):
        folder = (SHARE, CHOICE, rows)
        return (left_out(self.book, self.work, folder), spare(self.book, self.work, folder))

    def test_all_are_there(self):
        self.alike(self.told(ROWS), ([], []))
        self.alike(self.told(ROWS[::-1]), ([], []))
        self.alike(self.told(ROWS + ROWS), ([], []))

    def test_left_out_in_their_order(self):
        self.alike(self.told([]), (ROWS, []))
        for many in (1, 2, 6):
            for rows in itertools.combinations(ROWS[::-1], many):
                self.alike(self.told(list(rows)), ([row for row in ROWS if row not in rows], []))

    def test_spare_in_their_order_and_as_often(self):
        self.alike(self.told(SPARE + ROWS), ([], SPARE))
        self.alike(self.told(SPARE[::-1] + ROWS + SPARE[:2]), ([], SPARE[::-1] + SPARE[:2]))
        self.alike(self.told(ROWS[:2] + SPARE[:1] + ROWS[:2] + SPARE[:1]), (ROWS[2:], SPARE[:1] * 2))

    def test_each_of_the_four_counts(self):
        for place, thing in ((0, "fax"), (1, "clock"), (2, ("share", 3)), (3, TO_LIB)):
            row = list(ROWS[2])
            row[place] = thing
            self.alike(self.told(ROWS[:2] + [tuple(row)] + ROWS[3:]), ([ROWS[2]], [tuple(row)]))

    def test_just_the_row_that_is_missing(self):
        chance = random.Random(116)
        seen = 0
        for turn in range(60):
            book = any_book(chance, chance.randrange(2, 13))
            work = any_work(chance, book.all_keys(), chance.randrange(1, 9))
            for key in told_keys(book, work):
                key, choice, rows = folder_of(book, work, key, least_choice(book, work, key))
                self.assertIs(lets_by(book, work, (key, choice, rows)), True)
                for row in rows:
                    seen += 1
                    folder = (key, choice, [other for other in rows if other != row])
                    self.alike(left_out(book, work, folder), [row])
                    self.alike(spare(book, work, folder), [])
                    self.assertIs(lets_by(book, work, folder), False)
        self.assertGreater(seen, 100)

    def test_refused(self):
        for ask in (left_out, spare):
            for key in (GONE, ("x", 0)):
                self.refused(NoKey, key, lambda: ask(self.book, self.work, (key, CHOICE, ROWS)))
                self.refused(NoKey, key, lambda: ask(self.book, unknown_work(), (key, {}, [])))
            self.refused(NoKey, LOST, lambda: ask(self.book, unknown_work(), (FREE, {}, [])))
            for choice in ({}, {"app": FREE}, dict(CHOICE, more=FREE), dict(CHOICE, core=SHUT)):
                self.refused(NoChoice, choice, lambda: ask(self.book, self.work, (SHARE, choice, ROWS)))
            self.refused(NoChoice, CHOICE, lambda: ask(self.book, self.work, (FREE, CHOICE, ROWS)))

    def test_what_is_handed_in_stays_and_what_is_told_is_the_askers_own(self):
        folder = (SHARE, dict(CHOICE), SPARE + ROWS[2:])
        for ask, due in ((left_out, ROWS[:2]), (spare, SPARE)):
            ask(self.book, self.work, folder).clear()
            self.alike(ask(self.book, self.work, folder), due)
        self.alike(folder, (SHARE, CHOICE, SPARE + ROWS[2:]))
        self.assertEqual((show_book(self.book), self.work.told()), (show_book(sample_book()), sample_work().told()))


class LetBy(Refusing):
    """Points 115 and 116."""

    def setUp(self):
        self.book, self.work = sample_book(), sample_work()

    def let(self, due, *things):
        self.assertIs(lets_by(self.book, self.work, things[0] if len(things) == 1 else tuple(things)), due)

    def test_folders_that_are_let_by(self):
        self.let(True, SHARE, CHOICE, ROWS)
        self.let(True, SHARE, CHOICE, ROWS[::-1])
        self.let(True, SHARE, CHOICE, ROWS + ROWS)
        self.let(True, SHARE, CHOICE, SPARE + ROWS + SPARE)
        self.let(True, SHARE, CHOICE, ODD_THINGS + ROWS + [self.work, self.book, None])
        self.let(True, read_folder(TEXT))

    def test_without_a_row(self):
        for place in range(len(ROWS)):
            self.let(False, SHARE, CHOICE, ROWS[:place] + ROWS[place + 1:])
            self.let(False, SHARE, CHOICE, ROWS[:place] + SPARE + ODD_THINGS + ROWS[place + 1:])
        self.let(False, SHARE, CHOICE, [])

    def test_a_row_of_another_kind_is_no_notice(self):
        for place, (duty, name, offer, road) in enumerate(ROWS):
            for row in ([duty, name, offer, road], (duty, name, offer, list(road)), (duty, name, list(offer), road), (duty, name, offer),
                        (duty, name, offer, road, 1), (duty, name, offer, tuple(list(pair) for pair in road) + ((),)), {0: duty}):
                self.let(False, SHARE, CHOICE, ROWS[:place] + [row] + ROWS[place + 1:])

    def test_other_keys(self):
        self.let(False, FREE, CHOICE, ROWS)
        for thing in NO_KEYS + ["share.2", ["share", 2], ("share", 2, 0)]:
            self.let(False, thing, CHOICE, ROWS)
            self.assertIs(lets_by(self.book, Part("a"), (thing, {}, [])), False)

    def test_other_choices(self):
        for thing in ODD_THINGS + [dict(CHOICE, clock=("shut", True)), dict(CHOICE, more=FREE), dict(CHOICE, lib=SHUT),
                                   list(CHOICE.items())]:
            self.let(False, SHARE, thing, ROWS)
        self.let(False, SHARE, dict(CHOICE, core=FREE), ROWS)

    def test_other_rows(self):
        for thing in ODD_THINGS + [tuple(ROWS), {row: True for row in ROWS}, TEXT]:
            self.let(False, SHARE, CHOICE, thing)
        for thing in ODD_THINGS:
            self.assertIs(lets_by(self.book, Part("a"), (FREE, {}, thing)), isinstance(thing, list))

    def test_things_that_are_no_folder(self):
        for thing in ODD_THINGS + [[SHARE, CHOICE, ROWS], (SHARE, CHOICE), (SHARE, CHOICE, ROWS, 1), ((SHARE, CHOICE, ROWS),),
                                   TEXT, self.work]:
            self.let(False, thing)
            self.assertIs(lets_by(self.book, Part("a"), thing), False)

    def test_refused_is_an_unknown_offer_alone(self):
        for thing in ODD_THINGS + [(GONE, {}, []), (FREE, {}, []), (FREE, None, None), (SHARE, CHOICE, ROWS)]:
            self.refused(NoKey, LOST, lambda: lets_by(self.book, unknown_work(), thing))

    def test_what_is_handed_in_stays(self):
        folder = (SHARE, dict(CHOICE), list(ROWS))
        self.let(True, folder)
        self.alike(folder, (SHARE, CHOICE, ROWS))


if __name__ == "__main__":
    unittest.main()
