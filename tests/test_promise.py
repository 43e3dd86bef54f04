"""Point 8: from the texts of a book and a work to what is told of them, and on to folders and a desk."""

import random
import unittest

from grantweave.booktext import read_book, show_book
from grantweave.changes import compared_works, put_beneath, rejoined, taken_out
from grantweave.days import stops_on, told_on
from grantweave.desk import Desk
from grantweave.duties import due_rows, duties_of, least_choice
from grantweave.errors import Doubled, NoKey, NoPart, Stopped
from grantweave.folders import folder_of, left_out, lets_by, read_folder, show_folder, spare
from grantweave.office import Office
from grantweave.own import chain_holds, own_terms
from grantweave.prices import loosened
from grantweave.steps import given_on, stepped, whole_choice
from grantweave.whole import choice_fits, faults_at, least_told, stops, told_keys
from grantweave.works import Part
from grantweave.worktext import read_work, show_work
from tests.helping import Refusing, any_book, any_work, dated_book, days_for

BOOK = """strings open named
duties list copy
licence free.1 ; lets use give join change sell ; strings ; bars ; reach changed ; free ; \
called ; beside list ; joined ; changed ; from 0 to 9999 ; lasting
licence share.2 ; lets change join give use ; strings open ; bars named ; reach joined ; same ; \
called ; beside list ; joined copy ; changed ; from 0 to 9999 ; lasting
licence shut.1 ; lets use give ; strings named ; bars ; reach beside ; free ; \
called ; beside ; joined ; changed ; from 0 to 9999 ; ends
licence share.3 ; lets use give join ; strings open ; bars named ; reach beside ; same ; \
called ; beside ; joined ; changed ; from 0 to 9999 ; lasting"""
WORK = """app
- joined core share.2
-- called clock shut.1
-- changed deep free.1 shut.1
- beside art free.1 share.2"""
FREE, SHARE, SHUT, SHARER = ("free", 1), ("share", 2), ("shut", 1), ("share", 3)


class FromTexts(Refusing):
    def setUp(self):
        self.book, self.work = read_book(BOOK), read_work(WORK)

    def test_told_keys(self):
        self.alike(told_keys(self.book, self.work), [SHARE, SHARER])
        self.alike(least_told(self.book, self.work), [SHARE])

    def test_the_parts_that_stop_the_others_and_why(self):
        self.alike(stops(self.book, self.work, FREE), [("core", [(SHARE, ("lets", 4))])])
        self.alike(stops(self.book, self.work, SHUT), [("core", [(SHARE, ("string", 0))])])
        self.alike(faults_at(self.book, self.work, "deep", SHARE), [(FREE, None), (SHUT, ("deed", 2))])

    def test_the_least_choice_and_its_duties(self):
        choice = least_choice(self.book, self.work, SHARER)
        self.assertEqual(choice, {"core": SHARE, "clock": SHUT, "deep": FREE, "art": FREE})
        self.alike(due_rows(self.book, self.work, SHARER, choice), [
            ("list", "core", SHARE), ("list", "deep", FREE), ("list", "art", FREE), ("copy", "core", SHARE)])
        self.alike(duties_of(self.book, self.work, "art", SHARE), ["list"])
        self.refused(Stopped, "core", lambda: least_choice(self.book, self.work, FREE))

    def test_a_part_that_is_changed_closer(self):
        closer = read_work(WORK.replace("- beside art", "- joined art").replace("-- called clock", "-- beside clock"))
        self.alike(told_keys(self.book, closer), [])
        self.alike(stops(self.book, closer, SHARE), [("clock", [(SHUT, ("lets", 2))])])
        self.alike(stops(self.book, closer, SHARER), [("clock", [(SHUT, ("lets", 2))])])

    def test_steps_and_the_choice_of_the_whole(self):
        steps = [("deep", FREE), ("core", SHARE)]
        behind = stepped(self.book, self.work, steps)
        self.assertEqual(show_work(behind), "app\n- joined core share.2\n- beside art free.1 share.2")
        self.alike(told_keys(self.book, behind), [SHARE, SHARER])
        choice = whole_choice(self.book, self.work, steps, SHARER)
        self.assertIs(choice_fits(self.book, self.work, SHARER, choice), True)
        self.refused(NoPart, "deep", lambda: given_on(self.book, behind, "deep", FREE))

    def test_terms_of_ones_own(self):
        self.alike(own_terms(self.book, self.work), ("stopped", "core", [(SHARE, ("same",))]))
        looser = read_work(WORK.replace("- joined core", "- beside core"))
        told = own_terms(self.book, looser)
        self.assertEqual(told[:2], ("own", {"core": SHARE, "clock": SHUT, "deep": FREE, "art": FREE}))
        self.assertEqual(told[2].told(), (31, 0, 0, 3))

    def test_days_and_an_office(self):
        book = read_book(BOOK.replace("from 0 to 9999 ; ends", "from 5 to 50 ; ends"))
        taken = {"core": 1, "clock": 5, "deep": 3, "art": 0}
        self.alike(told_on(book, self.work, taken, 50), [SHARE, SHARER])
        self.alike(stops_on(book, self.work, taken, 51, SHARE), [("clock", [(SHUT, ("ended", 50))])])
        office = Office(book)
        office.give_out("first", self.work, taken, SHARE, 50)
        self.refused(Doubled, "first", lambda: office.give_out("first", self.work, taken, SHARE, 51))
        self.refused(Stopped, "clock", lambda: office.give_out("second", self.work, taken, SHARE, 51))
        self.alike((office.givings(), office.ended(50), office.ended(51)), ([("first", SHARE, 50)], [], ["first"]))

    def test_changes_and_prices(self):
        closer = rejoined(self.work, "clock", "beside")
        self.alike(compared_works(self.book, self.work, closer), ([(SHARE, "clock"), (SHARER, "clock")], []))
        self.alike(loosened(self.book, closer, SHARE, {"core": 9, "clock": 2, "deep": 1, "art": 1}), ("loose", 2, ["clock"], {"clock": 2}))
        self.alike(loosened(self.book, self.work, FREE, {"core": 9, "clock": 2, "deep": 1, "art": 1}), ("loose", 9, ["core"], {"core": 9}))
        self.alike(loosened(self.book, put_beneath(self.work, "app", "called", Part("new")), SHARE, {
            "core": 0, "clock": 0, "deep": 0, "art": 0, "new": 0}), ("told",))
        self.alike(told_keys(self.book, taken_out(self.work, "core")), [FREE, SHARE, SHUT, SHARER])

    def test_folders(self):
        choice = least_choice(self.book, self.work, SHARER)
        text = show_folder(folder_of(self.book, self.work, SHARER, choice))
        self.assertEqual(text, "under share.3\ntake art free.1\ntake clock shut.1\ntake core share.2\ntake deep free.1\n"
                               "owe list core share.2 joined core\nowe list deep free.1 joined core changed deep\n"
                               "owe list art free.1 beside art\nowe copy core share.2 joined core")
        self.assertIs(lets_by(self.book, self.work, read_folder(text)), True)
        shorter = read_folder(text.replace("\nowe list art free.1 beside art", "\nowe copy art free.1"))
        self.assertIs(lets_by(self.book, self.work, shorter), False)
        self.alike(left_out(self.book, self.work, shorter), [("list", "art", FREE, (("beside", "art"),))])
        self.alike(spare(self.book, self.work, shorter), [("copy", "art", FREE, ())])

    def test_a_desk(self):
        desk = Desk()
        rows = [("book " + BOOK.replace("\n", " / "), "ok"), ("work app " + WORK.replace("\n", " / "), "ok"), ("told app", "share.2 share.3"),
                ("least app", "share.2"), ("stops app free.1", "core share.2 lets sell"), ("own app", "stopped core"),
                ("duties app share.3", "list core share.2; list deep free.1; list art free.1; copy core share.2"),
                ("loose app free.1 core 9 clock 2 deep 1 art 1", "loose 9"), ("join app clock beside", "ok"), ("told app", "none"),
                ("stops app share.3", "clock shut.1 lets join"), ("work old " + WORK.replace("\n", " / "), "ok"),
                ("lost old app", "share.2 clock; share.3 clock / none"), ("take old core 1", "ok"), ("take old clock 5", "ok"),
                ("take old deep 3", "ok"), ("take old art 0", "ok"), ("on old 50", "share.2 share.3"), ("give first old share.2 50", "ok"),
                ("givings", "first share.2 50"), ("ended 51", "none"), ("step old core share.3", "ok"),
                ("show old", "app / - joined core share.3 / - beside art free.1 share.2")]
        for line, due in rows:
            self.alike(desk.say(line), due)

    def test_a_work_of_another_book(self):
        other = read_book("\n".join(BOOK.split("\n")[:3]))
        self.refused(NoKey, SHARE, lambda: told_keys(other, self.work))


class OfEveryBookAndWork(Refusing):
    def test_told_just_where_no_part_stops_it(self):
        chance = random.Random(8)
        told_once = stopped_once = 0
        for turn in range(60):
            book = any_book(chance, chance.randrange(2, 13))
            work = any_work(chance, book.all_keys(), chance.randrange(1, 12))
            again, alike = read_book(show_book(book)), read_work(show_work(work))
            told = told_keys(book, work)
            self.alike(told_keys(again, alike), told)
            self.alike(least_told(again, alike), least_told(book, work))
            for key in book.all_keys():
                stopping = stops(book, work, key)
                self.alike(stops(again, alike, key), stopping)
                self.assertEqual(key in told, stopping == [])
                if key in told:
                    told_once += 1
                    choice = least_choice(book, work, key)
                    self.assertTrue(choice_fits(again, alike, key, choice))
                    self.alike(due_rows(again, alike, key, choice), due_rows(book, work, key, choice))
                    self.assertLessEqual(set(book.coverers(key)), set(told))
                else:
                    stopped_once += 1
                    for name, faults in stopping:
                        self.assertEqual([offer for offer, fault in faults], list(work.at(name).offers))
                        self.assertNotIn(None, [fault for offer, fault in faults])
        self.assertGreater(min(told_once, stopped_once), 40)

    def test_steps_own_terms_and_days(self):
        chance = random.Random(9)
        seen = {}
        for turn in range(150):
            book = dated_book(chance, chance.randrange(2, 13))
            work = any_work(chance, book.all_keys(), chance.randrange(1, 7))
            again, alike = read_book(show_book(book)), read_work(show_work(work))
            name = chance.choice(work.all_names())
            for key in told_keys(book, work.at(name)):
                behind = given_on(book, work, name, key)
                self.alike(given_on(again, alike, name, key).told(), behind.told())
                self.assertLessEqual(set(told_keys(book, behind)), set(told_keys(book, work)))
                seen["step"] = seen.get("step", 0) + 1
            told = own_terms(again, alike)
            seen[told[0]] = seen.get(told[0], 0) + 1
            if told[0] == "clash":
                for chain in told[2]:
                    self.assertIs(chain_holds(book, work, chain), True)
            if told[0] == "own":
                bound = [book.licence(offer) for part, offer in told[1].items() if book.licence(offer).reach <= work.closeness_of(part)]
                self.assertTrue(all(told[2].covers(one) for one in bound))
            taken = days_for(chance, work, 4)
            self.alike(told_on(again, alike, taken, 8), told_on(book, work, taken, 8))
            self.assertLessEqual(set(told_on(book, work, taken, 8)), set(told_on(book, work, taken, 4)))
            self.assertLessEqual(set(told_on(book, work, taken, 4)), set(told_keys(book, work)))
        self.assertEqual(set(seen), {"step", "own", "stopped", "clash"})

    def test_prices_and_folders(self):
        chance = random.Random(10)
        seen = set()
        for turn in range(60):
            book = any_book(chance, chance.randrange(2, 13))
            work = any_work(chance, book.all_keys(), chance.randrange(1, 10))
            again, alike = read_book(show_book(book)), read_work(show_work(work))
            prices = {name: chance.randrange(9) for name in work.all_names()[1:]}
            for key in book.all_keys():
                told = loosened(book, work, key, prices)
                self.alike(loosened(again, alike, key, dict(prices)), told)
                seen.add(told[0])
                if told[0] == "told":
                    folder = folder_of(book, work, key, least_choice(book, work, key))
                    self.assertIs(lets_by(again, alike, read_folder(show_folder(folder))), True)
                if told[0] == "loose":
                    for name in told[2]:
                        alike = rejoined(alike, name, "called")
                    self.assertIn(key, told_keys(again, alike))
                    alike = read_work(show_work(work))
        self.assertEqual(seen, {"told", "never", "loose"})


if __name__ == "__main__":
    unittest.main()
