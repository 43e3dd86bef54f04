"""Points 121 to 128, and 6 where it speaks of them: a desk that is told lines."""

import random
import unittest

from grantweave.booktext import show_book
from grantweave.changes import compared_works, put_beneath, rejoined, reoffered, taken_out
from grantweave.days import told_on
from grantweave.desk import Desk
from grantweave.duties import due_rows, least_choice
from grantweave.errors import (BadOffers, BadTerms, BadText, Doubled, GrantError, NoDay, NoJoin, NoKey, NoLine, NoPart,
                               NoPrice, Stopped, TooDeep, TooMany)
from grantweave.office import Office
from grantweave.own import own_terms
from grantweave.prices import loosened
from grantweave.steps import given_on
from grantweave.whole import least_told, stops, told_keys
from grantweave.words import key_text
from grantweave.works import Part
from grantweave.worktext import show_work
from tests.helping import DEEDS, JOINS, ODD_THINGS, Refusing, any_work, dated_book, part_name

CLOSE, ALL = "use give join change", "use give join change sell"


def named(head, names):
    return head + " " + names if names else head


def row(key, lets, strings="", bars="", reach="called", same="free", asks=("", "", "", ""), days="from 0 to 9999", lasting="lasting"):
    """The row of a licence in a book's text (26)."""
    sections = [named("licence", key), named("lets", lets), named("strings", strings), named("bars", bars), named("reach", reach), same]
    return " ; ".join(sections + [named(join, duties) for join, duties in zip(JOINS, asks)] + [days, lasting])


BOOK = " / ".join([
    "strings open named", "duties list copy", row("free.1", ALL, reach="changed", asks=("", "list", "", "")),
    row("share.2", CLOSE, "open", "named", "joined", "same", ("", "list", "copy", "")),
    row("brief.1", ALL, "named", "", "joined", days="from 10 to 20", lasting="ends"), row("shut.7", "use give", reach="beside"),
    row("mild.3", ALL, "", "open", "beside")])
WORK = "app / - joined core share.2 free.1 / -- called clock brief.1 / - beside art free.1"
FREE, SHARE, BRIEF, SHUT, MILD = ("free", 1), ("share", 2), ("brief", 1), ("shut", 7), ("mild", 3)
EVERY = "free.1 share.2 brief.1 shut.7 mild.3"
STATE = ["show app", "show other", "givings", "ended 9999", "told app", "on app 50"]


class AtDesk(Refusing):
    def setUp(self):
        self.desk = Desk()
        self.says("book " + BOOK, "ok")
        self.says("work app " + WORK, "ok")

    def says(self, line, due):
        self.alike(self.desk.say(line), due)

    def heard(self, line):
        try:
            return self.desk.say(line)
        except GrantError as refusal:
            return (type(refusal), list(vars(refusal).values()))

    def refuses(self, error, held, line):
        before = [self.heard(other) for other in STATE]
        self.refused(error, held, lambda: self.desk.say(line))
        self.assertEqual([self.heard(other) for other in STATE], before)

    def no_line(self, line):
        self.refuses(NoLine, line, line)


class Kept(AtDesk):
    """Points 121 and 122."""

    def test_a_new_desk(self):
        self.desk = Desk()
        self.says("givings", "none")
        self.says("ended 5", "none")
        self.says("work a a", "ok")
        self.says("told a", "none")
        self.says("show a", "a")
        self.refuses(NoPart, "app", "show app")
        self.says("work a a free.1", "ok")
        self.refuses(NoKey, FREE, "told a")

    def test_a_book_told_anew(self):
        for line in ("take app core 0", "take app clock 10", "take app art 0", "give one app share.2 15"):
            self.says(line, "ok")
        self.says("givings", "one share.2 15")
        self.says("book strings / duties", "ok")
        self.says("givings", "none")
        self.says("ended 9999", "none")
        self.refuses(NoPart, "app", "show app")
        self.says("work app app", "ok")
        self.says("told app", "none")

    def test_a_book_told_again_forgets_days_and_givings(self):
        for line in ("take app core 0", "take app clock 10", "take app art 0", "give one app share.2 15"):
            self.says(line, "ok")
        self.says("book " + BOOK, "ok")
        self.refuses(NoPart, "app", "on app 15")
        self.says("work app " + WORK, "ok")
        self.refuses(NoDay, "core", "on app 15")
        self.says("givings", "none")

    def test_a_book_that_is_refused_changes_nothing(self):
        for line in ("take app core 0", "take app clock 10", "take app art 0", "give one app share.2 15"):
            self.says(line, "ok")
        self.refuses(BadText, 0, "book x")
        self.refuses(BadText, 1, "book strings")
        self.refuses(BadText, 2, "book strings / duties / x")
        self.refuses(BadText, 2, "book strings / duties / ")
        self.refuses(BadText, 0, "book strings Open / duties")
        self.refuses(Doubled, "a", "book strings a a / duties")
        self.refuses(TooMany, 7, "book strings a b c d e f g / duties")
        self.refuses(BadTerms, (1, 1, 1, 0), "book strings a / duties / " + row("x.1", "use", "a", "a"))
        self.says("givings", "one share.2 15")

    def test_rows_of_a_book(self):
        desk = Desk()
        self.alike(desk.say("book strings / duties"), "ok")
        self.alike(desk.say("book strings a / duties a"), "ok")
        for line in ("book ", "book  ", "book strings /duties", "book strings/ duties", "book strings  / duties"):
            self.refused(BadText, 0, lambda: desk.say(line))
        self.refused(BadText, 1, lambda: desk.say("book strings /  duties"))
        self.refused(BadText, 1, lambda: desk.say("book strings /  / duties"))
        self.refused(BadText, 1, lambda: desk.say("book strings / duties /"))

    def test_a_work_told_anew_under_its_name(self):
        for line in ("take app core 0", "take app clock 10", "take app art 0"):
            self.says(line, "ok")
        self.says("on app 15", EVERY)
        self.says("work app " + WORK, "ok")
        self.refuses(NoDay, "core", "on app 15")
        self.says("work app other free.1", "ok")
        self.says("show app", "other free.1")
        self.refuses(NoDay, "other", "on app 15")

    def test_a_work_that_is_refused_leaves_the_one_that_was(self):
        for line in ("take app core 0", "take app clock 10", "take app art 0"):
            self.says(line, "ok")
        self.refuses(BadText, 0, "work app ")
        self.refuses(BadText, 0, "work app App")
        self.refuses(BadText, 1, "work app a / b")
        self.refuses(BadText, 1, "work app a / ")
        self.refuses(BadText, 0, "work app a /")
        self.refuses(BadText, 0, "work app  a")
        self.refuses(BadOffers, [FREE, FREE], "work app a free.1 free.1")
        self.refuses(Doubled, "a", "work app a / - called b / - called a")
        self.refuses(BadText, 0, "work new ")
        self.refuses(NoPart, "new", "show new")
        self.says("on app 15", EVERY)
        self.says("show app", WORK)

    def test_several_works(self):
        self.says("work other a / - called b", "ok")
        self.says("work work work free.1", "ok")
        self.says("show app", WORK)
        self.says("show other", "a / - called b")
        self.says("show work", "work free.1")
        self.says("take other b 3", "ok")
        self.refuses(NoDay, "core", "on app 15")

    def test_days_of_taking(self):
        self.says("work one a brief.1", "ok")
        self.says("take one a 9", "ok")
        self.says("on one 15", "none")
        self.says("take one a 10", "ok")
        self.says("on one 15", "brief.1")
        self.says("on one 20", "brief.1")
        self.says("on one 21", "none")
        self.refuses(NoDay, 10, "on one 9")

    def test_what_take_refuses(self):
        for name in ("x", "appp"):
            self.refuses(NoPart, name, "take app " + name + " 5")
            self.refuses(NoPart, name, "take app " + name + " 10000")
        for number in (10000, 9999999):
            self.refuses(NoDay, number, "take app core " + str(number))
        for part in ("app", "core", "clock", "art"):
            for number in (0, 9999):
                self.says("take app " + part + " " + str(number), "ok")


class Changed(AtDesk):
    """Point 123."""

    def test_join(self):
        self.says("join app core beside", "ok")
        self.says("show app", WORK.replace("joined core", "beside core"))
        self.refuses(NoPart, "app", "join app app called")
        self.refuses(NoPart, "x", "join app x nonsense")
        self.refuses(NoJoin, "nonsense", "join app core nonsense")
        self.refuses(NoJoin, "core", "join app core core")

    def test_offer(self):
        self.says("offer app clock free.1 gone.9", "ok")
        self.says("show app", WORK.replace("brief.1", "free.1 gone.9"))
        self.says("offer app clock", "ok")
        self.says("show app", WORK.replace(" brief.1", ""))
        self.says("offer app app share.2", "ok")
        self.says("show app", WORK.replace(" brief.1", "").replace("app /", "app share.2 /"))
        self.refuses(NoPart, "x", "offer app x free.1 free.1")
        self.refuses(BadOffers, [FREE, FREE], "offer app core free.1 free.1")
        self.refuses(BadOffers, [FREE, SHARE, BRIEF], "offer app core free.1 share.2 brief.1")

    def test_put(self):
        self.says("put app core changed deep free.1 share.2", "ok")
        self.says("put app app called side", "ok")
        self.says("show app", "app / - joined core share.2 free.1 / -- called clock brief.1 / -- changed deep free.1 share.2 / "
                              "- beside art free.1 / - called side")
        self.refuses(BadOffers, [FREE, FREE], "put app x y core free.1 free.1")
        self.refuses(NoPart, "x", "put app x y core free.1")
        self.refuses(NoJoin, "y", "put app core y core free.1")
        self.refuses(Doubled, "core", "put app art called core free.1")

    def test_put_beyond_the_bounds(self):
        self.says("work big a / - called b / -- called c / --- called d / ---- called e / ----- called f", "ok")
        self.refuses(TooDeep, 7, "put big f called g")
        self.says("put big e called g", "ok")
        for number in range(5):
            self.says("put big a called " + part_name(number), "ok")
        self.refuses(TooMany, 7, "put big a called pzz")
        self.refuses(TooMany, 7, "put big a called b")
        for number in range(5, 10):
            self.says("put big " + part_name(0) + " called " + part_name(number), "ok")
        for number in range(10, 15):
            self.says("put big " + part_name(1) + " called " + part_name(number), "ok")
        for number in range(15, 20):
            self.says("put big " + part_name(2) + " called " + part_name(number), "ok")
        for number in range(20, 23):
            self.says("put big " + part_name(3) + " called " + part_name(number), "ok")
        self.refuses(TooMany, 31, "put big " + part_name(3) + " called z")
        self.refuses(TooMany, 31, "put big f called z")
        self.refuses(Doubled, "a", "put big f called a")

    def test_out(self):
        self.says("out app core", "ok")
        self.says("show app", "app / - beside art free.1")
        self.refuses(NoPart, "app", "out app app")
        self.refuses(NoPart, "core", "out app core")
        self.refuses(NoPart, "clock", "out app clock")

    def test_step(self):
        self.says("step app core share.2", "ok")
        self.says("show app", "app / - joined core share.2 / - beside art free.1")
        self.says("step app app share.2", "ok")
        self.says("show app", "app share.2")
        self.refuses(NoPart, "core", "step app core gone.1")
        self.refuses(NoKey, ("gone", 1), "step app app gone.1")
        self.refuses(Stopped, "app", "step app app free.1")
        self.says("work app " + WORK, "ok")
        self.says("step app clock brief.1", "ok")
        self.says("offer app art gone.1", "ok")
        self.refuses(NoKey, ("gone", 1), "step app core shut.7")

    def test_the_days_of_taking_stay(self):
        # A part that is out, and is put again, was taken on the day that was told for its name.
        for line in ("take app core 0", "take app clock 10", "take app art 0"):
            self.says(line, "ok")
        for line in ("join app art called", "offer app art free.1", "step app core free.1", "put app app called clock brief.1"):
            self.says(line, "ok")
            if not line.startswith("step"):
                self.says("on app 15", EVERY)
        self.says("on app 21", "none")
        self.says("put app app called new free.1", "ok")
        self.refuses(NoDay, "new", "on app 15")

    def test_other_works_stay(self):
        self.says("work other " + WORK, "ok")
        for line in ("join app core called", "offer app core", "put app core called x", "out app core", "step app app free.1"):
            self.says(line, "ok")
        self.says("show other", WORK)


class Asked(AtDesk):
    """Points 124 and 126."""

    def test_show(self):
        self.says("show app", WORK)
        self.says("work one a", "ok")
        self.says("show one", "a")

    def test_told_and_least(self):
        self.says("told app", EVERY)
        self.says("least app", "free.1")
        self.says("work app a share.2", "ok")
        self.says("told app", "share.2")
        self.says("least app", "share.2")
        self.says("work app a shut.7", "ok")
        self.says("told app", "none")
        self.says("least app", "none")
        self.says("work app a gone.1", "ok")
        for line in ("told app", "least app"):
            self.refuses(NoKey, ("gone", 1), line)

    def test_stops(self):
        self.says("stops app free.1", "none")
        self.says("work app app brief.1 shut.7 / - joined core share.2 / -- called clock shut.7 / - beside art mild.3 share.2", "ok")
        self.says("stops app free.1", "app brief.1 string named, shut.7 deed join; core share.2 lets sell")
        self.says("stops app brief.1", "core share.2 lets sell")
        self.says("stops app share.2", "app brief.1 string named, shut.7 deed join")
        self.refuses(NoKey, ("gone", 1), "stops app gone.1")
        self.says("offer app art gone.2", "ok")
        self.refuses(NoKey, ("gone", 1), "stops app gone.1")
        self.refuses(NoKey, ("gone", 2), "stops app free.1")

    def test_each_kind_of_fault(self):
        rows = [row("l.0", ALL, "open", same="same"), row("l.1", CLOSE, "open", "named"), row("l.2", CLOSE, reach="changed"),
                row("l.3", CLOSE, "open", "named", "beside"), row("l.4", "use give change sell", "open", "named"),
                row("l.5", CLOSE, "open named", same="same")]
        self.says("book strings open named / duties / " + " / ".join(rows), "ok")
        due = {(0, 2): "string open", (1, 3): "reach beside", (1, 2): "string open", (1, 5): "bar named", (3, 0): "lets sell",
               (1, 0): "lets sell", (4, 1): "deed join", (0, 1): "same", (5, 1): "string named", (2, 0): "lets sell", (0, 4): "same"}
        for (offer, key), fault in due.items():
            self.says("work w a l." + str(offer), "ok")
            self.says("stops w l." + str(key), "a l." + str(offer) + " " + fault)
        self.says("work w a / - joined b l.1 l.4 / - called c l.0", "ok")
        self.says("stops w l.2", "b l.1 string open, l.4 deed join; c l.0 string open")

    def test_each_deed_and_each_reach(self):
        for place, deed in enumerate(DEEDS[:4]):
            lets = " ".join(word for word in DEEDS if word != deed)
            self.says("book strings / duties / " + row("a.1", lets), "ok")
            self.says("work w a a.1", "ok")
            self.says("stops w a.1", "a a.1 deed " + deed)
        for place, join in enumerate(JOINS[1:]):
            both = row("a.0", CLOSE, reach=JOINS[place]) + " / " + row("a.1", CLOSE, reach=join)
            self.says("book strings / duties / " + both, "ok")
            self.says("work w a a.0", "ok")
            self.says("stops w a.1", "a a.0 reach " + join)

    def test_duties(self):
        self.says("duties app free.1", "list core free.1; list art free.1")
        self.says("work app a shut.7", "ok")
        self.refuses(Stopped, "a", "duties app free.1")
        self.says("work app a share.2 / - beside b free.1", "ok")
        self.says("duties app share.2", "list a share.2; list b free.1; copy a share.2")
        self.refuses(NoKey, ("gone", 1), "duties app gone.1")
        self.says("work app a", "ok")
        self.says("duties app share.2", "none")
        self.says("work app a mild.3", "ok")
        self.says("duties app mild.3", "none")

    def test_own(self):
        self.says("own app", "own ; lets use give join change sell ; strings ; bars ; reach changed")
        self.says("work app a brief.1 / - joined b mild.3", "ok")
        self.says("own app", "own ; lets use give join change sell ; strings named ; bars open ; reach beside")
        self.says("work app a share.2", "ok")
        self.says("own app", "stopped a")
        self.says("work app app / - beside b shut.7 / - joined c shut.7", "ok")
        self.says("own app", "stopped c")
        both = row("a.1", CLOSE, "x") + " / " + row("b.1", CLOSE, "", "x")
        self.says("book strings x / duties / " + both, "ok")
        self.says("work app app / - called one a.1 / - called two b.1", "ok")
        self.assertIn(self.desk.say("own app"), ("clash one", "clash two"))
        self.says("work app a gone.1", "ok")
        self.refuses(NoKey, ("gone", 1), "own app")

    def test_loose(self):
        self.says("loose app free.1 core 1 clock 1 art 1", "told")
        self.says("work app app / - joined core brief.1 / -- joined deep share.2 / - joined art brief.1", "ok")
        self.says("loose app free.1 core 5 deep 7 art 6", "loose 11")
        self.says("loose app free.1 deep 0 core 0 art 0 nobody 9999999", "loose 0")
        self.says("loose app free.1 core 1000000 deep 0 art 1000000", "loose 2000000")
        self.says("loose app brief.1 core 5 deep 7 art 6", "loose 5")
        self.says("offer app app share.2", "ok")
        self.says("loose app free.1 core 5 deep 7 art 6", "never app")

    def test_what_loose_refuses(self):
        self.refuses(NoPrice, "core", "loose app free.1")
        self.refuses(NoPrice, "clock", "loose app free.1 core 5")
        self.refuses(NoPrice, "core", "loose app free.1 core 1000001 clock 9999999")
        self.refuses(NoPrice, "art", "loose app free.1 core 1000000 clock 0")
        self.refuses(NoKey, ("gone", 1), "loose app gone.1")
        self.no_line("loose app free.1 core 1 core 1")
        self.no_line("loose app free.1 core 1 clock 1 art 1 core 2")
        self.no_line("loose app free.1 core")
        self.no_line("loose app free.1 core 1 clock")
        self.no_line("loose app free.1 1 core")
        self.no_line("loose app free.1 core 01")
        self.no_line("loose app free.1 core 10000000")
        self.no_line("loose app")
        self.no_line("loose gone free.1 core 1 core 1")

    def test_lost(self):
        self.says("lost app app", "none / none")
        self.says("work other a share.2", "ok")
        self.says("lost app other", "free.1 a; brief.1 a; shut.7 a; mild.3 a / none")
        self.says("lost other app", "none / free.1 a; brief.1 a; shut.7 a; mild.3 a")
        self.says("work app a mild.3", "ok")
        self.says("lost app other", "mild.3 a / share.2 a")
        self.says("offer app a gone.1", "ok")
        self.says("offer other a gone.2", "ok")
        self.refuses(NoKey, ("gone", 1), "lost app other")
        self.refuses(NoKey, ("gone", 2), "lost other app")
        self.refuses(NoPart, "x", "lost x y")
        self.refuses(NoPart, "y", "lost app y")
        self.refuses(NoPart, "x", "lost x app")


class OnDays(AtDesk):
    """Point 125."""

    def test_on(self):
        self.refuses(NoDay, "core", "on app 5")
        for line in ("take app core 0", "take app clock 10", "take app art 0"):
            self.says(line, "ok")
        self.says("on app 15", EVERY)
        self.says("on app 21", "none")
        self.refuses(NoDay, 10, "on app 9")
        self.refuses(NoDay, 10000, "on app 10000")
        self.says("offer app art gone.1", "ok")
        self.refuses(NoKey, ("gone", 1), "on app 10000")

    def test_give_givings_and_ended(self):
        for line in ("take app core 0", "take app clock 10", "take app art 0"):
            self.says(line, "ok")
        self.says("give late app share.2 20", "ok")
        self.says("give early app free.1 10", "ok")
        self.says("givings", "late share.2 20; early free.1 10")
        self.says("ended 20", "none")
        self.says("ended 21", "late early")
        self.says("ended 9999", "late early")
        self.says("ended 0", "none")
        self.refuses(NoDay, 10000, "ended 10000")
        self.refuses(Doubled, "late", "give late app gone.1 10000")
        self.refuses(NoKey, ("gone", 1), "give new app gone.1 10000")
        self.refuses(NoDay, 10000, "give new app free.1 10000")
        self.refuses(NoDay, 10, "give new app free.1 5")
        self.refuses(Stopped, "clock", "give new app free.1 21")
        self.refuses(NoPart, "x", "give late x free.1 5")
        self.says("take app clock 9", "ok")
        self.refuses(Stopped, "clock", "give new app free.1 15")
        self.says("work new a free.1", "ok")
        self.refuses(NoDay, "a", "give new new free.1 15")

    def test_a_giving_stays_as_it_was(self):
        for line in ("take app core 0", "take app clock 10", "take app art 0", "give one app share.2 15"):
            self.says(line, "ok")
        for line in ("take app clock 0", "offer app clock", "out app core", "work app a shut.7", "take app a 0"):
            self.says(line, "ok")
            self.says("ended 20", "none")
            self.says("ended 21", "one")
            self.says("givings", "one share.2 15")


class Lines(AtDesk):
    """Point 127."""

    GOOD = {
        "book": "book strings / duties", "work": "work other a", "take": "take app core 5", "join": "join app core called",
        "offer": "offer app core free.1",
        "put": "put app core called new free.1", "out": "out app art", "step": "step app art free.1", "show": "show app",
        "told": "told app", "least": "least app",
        "stops": "stops app free.1", "duties": "duties app free.1", "own": "own app",
        "loose": "loose app free.1 core 1 clock 1 art 1", "lost": "lost app app",
        "on": "on app 5", "give": "give one app free.1 5", "givings": "givings", "ended": "ended 5",
    }
    OPEN_ENDED = ("book", "work", "offer", "put", "loose")

    def test_all_are_lines(self):
        for line in self.GOOD.values():
            self.desk = Desk()
            self.says("book " + BOOK, "ok")
            self.says("work app " + WORK, "ok")
            for part in ("core", "clock", "art"):
                self.says("take app " + part + " 5", "ok")
            heard = self.heard(line)
            self.assertTrue(isinstance(heard, str) or heard[0] is Stopped, line)

    def test_what_is_no_text(self):
        for thing in ODD_THINGS + [["givings"], ("givings",), b"givings".split()]:
            if not isinstance(thing, str):
                self.no_line(thing)

    def test_a_line_feed(self):
        for line in self.GOOD.values():
            for place in (0, len(line), line.find(" ") + 1):
                self.no_line(line[:place] + "\n" + line[place:])
        self.no_line("book strings\nduties")
        self.no_line("work other a\n- called b")
        self.no_line("\n")

    def test_first_words(self):
        for line in ("", " ", "x", "Show app", "shows app", "show", "bookstrings / duties", "giving", "none", "ok", "/ app", "NAME"):
            self.no_line(line)
        for word in self.GOOD:
            self.no_line(word.upper() + self.GOOD[word][len(word):])
            self.no_line(word + "x" + self.GOOD[word][len(word):])

    def test_a_word_fewer(self):
        least = {"offer": 3, "put": 5, "loose": 3, "work": 3, "book": 2}
        for word, line in self.GOOD.items():
            words = line.split(" ")
            for many in range(len(words)):
                if many < least.get(word, len(words)):
                    self.no_line(" ".join(words[:many]))

    def test_a_word_more(self):
        for word, line in self.GOOD.items():
            if word not in self.OPEN_ENDED:
                for more in ("x", "free.1", "5", "", "/"):
                    self.no_line(line + " " + more)

    def test_a_blank_more(self):
        for word, line in self.GOOD.items():
            self.no_line(" " + line)
            words = line.split(" ")
            for place in range(1, len(words)):
                if word not in ("book", "work") or (word == "work" and place == 1):
                    self.no_line(" ".join(words[:place] + [""] + words[place:]))
            if word not in ("book", "work"):
                self.no_line(line + " ")

    def test_an_odd_word_at_each_place(self):
        odd = {"word": ["App", "app1", "abcdefghi", "free.1", "5", "/", "-"],
               "key": ["free", "free.01", "free.100", "Free.1", "5", "free.1x", "free:1", ".1"],
               "number": ["x", "05", "00", "-1", "+1", "1.5", "12345678", "1x", "free.1", "0x1"]}
        kinds = {"work": ["word"], "take": ["word", "word", "number"], "join": ["word"] * 3, "offer": ["word", "word", "key"],
                 "put": ["word"] * 4 + ["key"],
                 "out": ["word"] * 2, "step": ["word", "word", "key"], "show": ["word"], "told": ["word"], "least": ["word"],
                 "stops": ["word", "key"],
                 "duties": ["word", "key"], "own": ["word"], "loose": ["word", "key", "word", "number", "word", "number"],
                 "lost": ["word"] * 2,
                 "on": ["word", "number"], "give": ["word", "word", "key", "number"], "ended": ["number"]}
        for first, places in kinds.items():
            words = self.GOOD[first].split(" ")
            for place, kind in enumerate(places):
                for thing in odd[kind]:
                    self.no_line(" ".join(words[:place + 1] + [thing] + words[place + 2:]))
        self.no_line("offer app core free.1 x")
        self.no_line("put app core called new free.1 new")

    def test_numbers_at_their_bounds(self):
        for number in ("0", "9", "10", "9999"):
            self.says("take app core " + number, "ok")
            self.says("ended " + number, "none")
        for number in ("10000", "1000000", "9999999"):
            self.refuses(NoDay, int(number), "ended " + number)
        for number in ("00", "01", "10000000", "09999"):
            self.no_line("ended " + number)

    def test_works_that_are_not_there(self):
        for word, line in self.GOOD.items():
            if word not in ("book", "work", "givings", "ended"):
                words = line.split(" ")
                place = 2 if word == "give" else 1
                gone = " ".join(words[:place] + ["gone"] + words[place + 1:])
                self.refuses(NoPart, "gone", gone)
                self.no_line(gone + " ")
        self.refuses(NoPart, "gone", "give one gone gone.1 9999999")
        self.refuses(NoPart, "gone", "take gone x 9999999")
        self.refuses(NoPart, "gone", "put gone x y z a.1 a.1")
        self.refuses(NoPart, "gone", "join gone x y")
        self.no_line("show gone x")

    def test_the_form_ahead_of_the_work(self):
        self.no_line("take gone core x")
        self.no_line("lost gone Gone")
        self.no_line("loose gone free.1 a 1 a 1")


class Alike(AtDesk):
    """Point 128."""

    def test_two_desks_have_nothing_in_common(self):
        other = Desk()
        self.assertEqual(other.say("givings"), "none")
        self.refused(NoPart, "app", lambda: other.say("show app"))
        other.say("book strings / duties")
        other.say("work app other")
        self.says("show app", WORK)
        self.alike(other.say("show app"), "other")
        for line in ("take app core 0", "take app clock 10", "take app art 0", "give one app share.2 15"):
            self.says(line, "ok")
        self.alike(other.say("givings"), "none")
        self.says("givings", "one share.2 15")

    def test_by_the_functions_of_the_stages(self):
        chance = random.Random(128)
        seen = {}
        for turn in range(25):
            book = dated_book(chance, chance.randrange(2, 9))
            works = {name: any_work(chance, book.all_keys(), chance.randrange(1, 7)) for name in ("one", "two")}
            mirror = Mirror(book, works)
            desks = [Desk(), Desk()]
            for desk in desks:
                self.alike(desk.say("book " + show_book(book).replace("\n", " / ")), "ok")
                for name in works:
                    self.alike(desk.say("work " + name + " " + show_work(works[name]).replace("\n", " / ")), "ok")
            for again in range(60):
                line = mirror.any_line(chance)
                due = mirror.answer(line)
                for desk in desks:
                    self.desk = desk
                    self.assertEqual(self.heard(line), due, line)
                kind = line.split(" ")[0], isinstance(due, str)
                seen[kind] = seen.get(kind, 0) + 1
        self.assertEqual({word for word, told in seen if told}, set(Lines.GOOD) - {"book", "work"})
        self.assertGreater(len([kind for kind in seen if not kind[1]]), 6)


class Mirror:
    """What a desk answers, by the functions of the stages and the words of points 121 to 126."""

    def __init__(self, book, works):
        self.book, self.works, self.taken, self.office = book, dict(works), {name: {} for name in works}, Office(book)

    def any_line(self, chance):
        name, other = chance.choice(["one", "two"]), chance.choice(["one", "two"])
        parts = self.works[name].all_names()
        part, key, day = chance.choice(parts + ["gone"]), chance.choice(self.book.all_keys()), str(chance.choice([4, 7, 11]))
        text, join = key_text(key), chance.choice(JOINS)
        prices = " ".join(part + " " + str(chance.randrange(9)) for part in parts[1:])
        taken = [" ".join(["take", name, part, str(chance.randrange(5))]) for part in parts]
        return chance.choice(chance.choice([
            taken, [" ".join(["join", name, part, join])], [" ".join(["offer", name, part, text])],
            ["offer " + name + " " + part], ["out " + name + " " + part],
            [" ".join(["put", name, part, join, "new" + "abcdefgh"[chance.randrange(8)], text])], [" ".join(["step", name, part, text])],
            ["show " + name], ["told " + name], ["least " + name], ["stops " + name + " " + text],
            ["duties " + name + " " + text], ["own " + name],
            [" ".join(["loose", name, text, prices]).rstrip()], ["lost " + name + " " + other], ["on " + name + " " + day],
            [" ".join(["give", "g" + "abcdefgh"[chance.randrange(8)], name, text, day])], ["givings"], ["ended " + day]]))

    def answer(self, line):
        try:
            return getattr(self, "say_" + line.split(" ")[0])(*line.split(" ")[1:])
        except GrantError as refusal:
            return (type(refusal), list(vars(refusal).values()))

    def key(self, text):
        return (text.split(".")[0], int(text.split(".")[1]))

    def row(self, things):
        return " ".join([key_text(thing) if isinstance(thing, tuple) else str(thing) for thing in things]) or "none"

    def rows(self, rows):
        return "; ".join([self.row(row) for row in rows]) or "none"

    def kept(self, name, work):
        self.works[name] = work
        return "ok"

    def say_take(self, name, part, number):
        self.works[name].at(part)
        self.taken[name][part] = int(number)
        return "ok"

    def say_join(self, name, part, join):
        return self.kept(name, rejoined(self.works[name], part, join))

    def say_offer(self, name, part, *texts):
        return self.kept(name, reoffered(self.works[name], part, [self.key(text) for text in texts]))

    def say_put(self, name, part, join, new, text):
        return self.kept(name, put_beneath(self.works[name], part, join, Part(new, [self.key(text)])))

    def say_out(self, name, part):
        return self.kept(name, taken_out(self.works[name], part))

    def say_step(self, name, part, text):
        return self.kept(name, given_on(self.book, self.works[name], part, self.key(text)))

    def say_show(self, name):
        return " / ".join(show_work(self.works[name]).split("\n"))

    def say_told(self, name):
        return self.row(told_keys(self.book, self.works[name]))

    def say_least(self, name):
        return self.row(least_told(self.book, self.works[name]))

    def fault(self, fault):
        seconds = {"deed": DEEDS, "lets": DEEDS, "string": self.book.string_names(), "bar": self.book.string_names(), "reach": JOINS}
        return fault[0] if fault == ("same",) else fault[0] + " " + seconds[fault[0]][fault[1]]

    def say_stops(self, name, text):
        found = []
        for part, faults in stops(self.book, self.works[name], self.key(text)):
            found.append(part + " " + ", ".join([key_text(offer) + " " + self.fault(fault) for offer, fault in faults]))
        return "; ".join(found) or "none"

    def say_duties(self, name, text):
        work, key = self.works[name], self.key(text)
        return self.rows(due_rows(self.book, work, key, least_choice(self.book, work, key)))

    def say_own(self, name):
        told = own_terms(self.book, self.works[name])
        if told[0] != "own":
            return told[0] + " " + told[1]
        lets, strings, bars, reach = told[2].told()
        names = self.book.string_names()
        sections = [("lets", lets, DEEDS), ("strings", strings, names), ("bars", bars, names)]
        rows = [" ".join([word] + [known[bit] for bit in range(len(known)) if mask >> bit & 1]) for word, mask, known in sections]
        return " ; ".join(["own"] + rows + ["reach " + JOINS[reach]])

    def say_loose(self, name, text, *pairs):
        prices = {pairs[place]: int(pairs[place + 1]) for place in range(0, len(pairs), 2)}
        return self.row(loosened(self.book, self.works[name], self.key(text), prices)[:2])

    def say_lost(self, name, other):
        lost, gained = compared_works(self.book, self.works[name], self.works[other])
        return self.rows(lost) + " / " + self.rows(gained)

    def say_on(self, name, day):
        return self.row(told_on(self.book, self.works[name], self.taken[name], int(day)))

    def say_give(self, giving, name, text, day):
        self.office.give_out(giving, self.works[name], self.taken[name], self.key(text), int(day))
        return "ok"

    def say_givings(self):
        return self.rows(self.office.givings())

    def say_ended(self, day):
        return self.row(self.office.ended(int(day)))


if __name__ == "__main__":
    unittest.main()
