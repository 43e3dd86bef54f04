"""An office, which gives works on and tells which givings are ended on a day."""

from grantweave.book import copied_book
from grantweave.days import need_day, stops_on
from grantweave.errors import Doubled, NoWord
from grantweave.whole import need_unstopped
from grantweave.words import is_word


class Office:
    def __init__(self, book):
        self.book = copied_book(book)
        self.given = {}

    def give_out(self, name, work, taken, key, day):
        if not is_word(name):
            raise NoWord(name)
        if name in self.given:
            raise Doubled(name)
        need_unstopped(stops_on(self.book, work, taken, day, key))
        self.given[name] = (work, dict(taken), key, day)

    def givings(self):
        return [(name, giving[2], giving[3]) for name, giving in self.given.items()]

    def ended(self, day):
        need_day(day)
        names = []
        for name, giving in self.given.items():
            if giving[3] <= day and stops_on(self.book, giving[0], giving[1], day, giving[2]):
                names.append(name)
        return names
