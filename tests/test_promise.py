"""Point 8 as far as it is built: from the texts of a book and a work to what is told of them."""

import random
import unittest

from grantweave.booktext import read_book, show_book
from grantweave.duties import due_rows, duties_of, least_choice
from grantweave.errors import NoKey, Stopped
from grantweave.whole import choice_fits, faults_at, least_told, stops, told_keys
from grantweave.worktext import read_work, show_work
from tests.helping import Refusing, any_book, any_work

BOOK = """strings open named
duties list copy
licence free.1 ; lets use give join change sell ; strings ; bars ; reach changed ; free ; \
called ; beside list ; joined ; changed ; from 0 to 9999 ; lasting
licence share.2 ; lets change join give use ; strings open ; bars named ; reach joined ; same ; \
called ; beside list ; joined copy ; changed ; from 0 to 9999 ; lasting
licence shut.1 ; lets use give ; strings named ; bars ; reach beside ; free ; \
called ; beside ; joined ; changed ; from 0 to 9999 ; ends
licence share.3 ; lets use give join ; strings open ; bars named ; reach beside ; same ; \
called ; beside ; joined ; changed ; from 0 to 9999 ; lasting"""
WORK = """app
- joined core share.2
-- called clock shut.1
-- changed deep free.1 shut.1
- beside art free.1 share.2"""
FREE, SHARE, SHUT, SHARER = ("free", 1), ("share", 2), ("shut", 1), ("share", 3)


class FromTexts(Refusing):
    def setUp(self):
        self.book, self.work = read_book(BOOK), read_work(WORK)

    def test_told_keys(self):
        self.alike(told_keys(self.book, self.work), [SHARE, SHARER])
        self.alike(least_told(self.book, self.work), [SHARE])

    def test_the_parts_that_stop_the_others_and_why(self):
        self.alike(stops(self.book, self.work, FREE), [("core", [(SHARE, ("lets", 4))])])
        self.alike(stops(self.book, self.work, SHUT), [("core", [(SHARE, ("string", 0))])])
        self.alike(faults_at(self.book, self.work, "deep", SHARE), [(FREE, None), (SHUT, ("deed", 2))])

    def test_the_least_choice_and_its_duties(self):
        choice = least_choice(self.book, self.work, SHARER)
        self.assertEqual(choice, {"core": SHARE, "clock": SHUT, "deep": FREE, "art": FREE})
        self.alike(due_rows(self.book, self.work, SHARER, choice), [
            ("list", "core", SHARE), ("list", "deep", FREE), ("list", "art", FREE), ("copy", "core", SHARE)])
        self.alike(duties_of(self.book, self.work, "art", SHARE), ["list"])
        self.refused(Stopped, "core", lambda: least_choice(self.book, self.work, FREE))

    def test_a_part_that_is_changed_closer(self):
        closer = read_work(WORK.replace("- beside art", "- joined art").replace("-- called clock", "-- beside clock"))
        self.alike(told_keys(self.book, closer), [])
        self.alike(stops(self.book, closer, SHARE), [("clock", [(SHUT, ("lets", 2))])])
        self.alike(stops(self.book, closer, SHARER), [("clock", [(SHUT, ("lets", 2))])])

    def test_a_work_of_another_book(self):
        other = read_book("\n".join(BOOK.split("\n")[:3]))
        self.refused(NoKey, SHARE, lambda: told_keys(other, self.work))


class OfEveryBookAndWork(Refusing):
    def test_told_just_where_no_part_stops_it(self):
        chance = random.Random(8)
        told_once = stopped_once = 0
        for turn in range(60):
            book = any_book(chance, chance.randrange(2, 13))
            work = any_work(chance, book.all_keys(), chance.randrange(1, 12))
            again, alike = read_book(show_book(book)), read_work(show_work(work))
            told = told_keys(book, work)
            self.alike(told_keys(again, alike), told)
            self.alike(least_told(again, alike), least_told(book, work))
            for key in book.all_keys():
                stopping = stops(book, work, key)
                self.alike(stops(again, alike, key), stopping)
                self.assertEqual(key in told, stopping == [])
                if key in told:
                    told_once += 1
                    choice = least_choice(book, work, key)
                    self.assertTrue(choice_fits(again, alike, key, choice))
                    self.alike(due_rows(again, alike, key, choice), due_rows(book, work, key, choice))
                    self.assertLessEqual(set(book.coverers(key)), set(told))
                else:
                    stopped_once += 1
                    for name, faults in stopping:
                        self.assertEqual([offer for offer, fault in faults], list(work.at(name).offers))
                        self.assertNotIn(None, [fault for offer, fault in faults])
        self.assertGreater(min(told_once, stopped_once), 40)


if __name__ == "__main__":
    unittest.main()
