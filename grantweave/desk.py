"""A desk, which is told lines and answers each with a text."""

from grantweave.answers import compared_answer, own_answer, stopping_answer, told_row, told_rows, work_answer
from grantweave.book import Book
from grantweave.booktext import read_book
from grantweave.changes import compared_works, put_beneath, rejoined, reoffered, taken_out
from grantweave.days import need_day, told_on
from grantweave.duties import due_rows, least_choice
from grantweave.errors import NoPart
from grantweave.lines import asked_works, read_line
from grantweave.office import Office
from grantweave.own import own_terms
from grantweave.prices import loosened
from grantweave.steps import given_on
from grantweave.whole import least_told, stops, told_keys
from grantweave.works import Part
from grantweave.worktext import read_work


def do_book(desk, said):
    desk.begin(read_book(said[0]))


def do_work(desk, said):
    work = read_work(said[1])
    desk.works[said[0]] = work
    desk.days[said[0]] = {}


def do_take(desk, said):
    part = desk.works[said[0]].at(said[1])
    need_day(said[2])
    desk.days[said[0]][part.name] = said[2]


def do_join(desk, said):
    desk.works[said[0]] = rejoined(desk.works[said[0]], said[1], said[2])


def do_offer(desk, said):
    desk.works[said[0]] = reoffered(desk.works[said[0]], said[1], said[2])


def do_put(desk, said):
    part = Part(said[3], said[4])
    desk.works[said[0]] = put_beneath(desk.works[said[0]], said[1], said[2], part)


def do_out(desk, said):
    desk.works[said[0]] = taken_out(desk.works[said[0]], said[1])


def do_step(desk, said):
    desk.works[said[0]] = given_on(desk.book, desk.works[said[0]], said[1], said[2])


def do_give(desk, said):
    desk.office.give_out(said[0], desk.works[said[1]], desk.days[said[1]], said[2], said[3])


def tell_show(desk, said):
    return work_answer(desk.works[said[0]])


def tell_told(desk, said):
    return told_row(told_keys(desk.book, desk.works[said[0]]))


def tell_least(desk, said):
    return told_row(least_told(desk.book, desk.works[said[0]]))


def tell_stops(desk, said):
    return stopping_answer(desk.book, stops(desk.book, desk.works[said[0]], said[1]))


def tell_duties(desk, said):
    work = desk.works[said[0]]
    return told_rows(due_rows(desk.book, work, said[1], least_choice(desk.book, work, said[1])))


def tell_own(desk, said):
    return own_answer(desk.book, own_terms(desk.book, desk.works[said[0]]))


def tell_loose(desk, said):
    return told_row(loosened(desk.book, desk.works[said[0]], said[1], said[2])[:2])


def tell_lost(desk, said):
    both = compared_works(desk.book, desk.works[said[0]], desk.works[said[1]])
    return compared_answer(both[0], both[1])


def tell_on(desk, said):
    return told_row(told_on(desk.book, desk.works[said[0]], desk.days[said[0]], said[1]))


def tell_givings(desk, said):
    return told_rows(desk.office.givings())


def tell_ended(desk, said):
    return told_row(desk.office.ended(said[0]))


DOINGS = {"book": do_book, "work": do_work, "take": do_take, "join": do_join, "offer": do_offer, "put": do_put,
          "out": do_out, "step": do_step, "give": do_give}
TELLINGS = {"show": tell_show, "told": tell_told, "least": tell_least, "stops": tell_stops, "duties": tell_duties,
            "own": tell_own, "loose": tell_loose, "lost": tell_lost, "on": tell_on, "givings": tell_givings,
            "ended": tell_ended}


class Desk:
    def __init__(self):
        self.begin(Book([], [], []))

    def begin(self, book):
        self.book = book
        self.works = {}
        self.days = {}
        self.office = Office(book)

    def say(self, line):
        read = read_line(line)
        for name in asked_works(read[0], read[1]):
            if name not in self.works:
                raise NoPart(name)
        if read[0] in TELLINGS:
            telling = TELLINGS[read[0]]
            return telling(self, read[1])
        doing = DOINGS[read[0]]
        doing(self, read[1])
        return "ok"
