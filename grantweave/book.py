"""Books: named strings, named duties, and licences by their keys."""

from grantweave.errors import BadAsks, BadTerms, Doubled, NoKey, NoWord, TooMany
from grantweave.licences import DUTY_BITS, STRING_BITS, Licence
from grantweave.words import is_key, is_mask, is_word

MOST_LICENCES = 12


def kept_names(names, most):
    if not isinstance(names, (list, tuple)):
        raise NoWord(names)
    if len(names) > most:
        raise TooMany(len(names))
    kept = []
    for name in names:
        if not is_word(name):
            raise NoWord(name)
        if name in kept:
            raise Doubled(name)
        kept.append(name)
    return kept


def kept_strings(names):
    return kept_names(names, STRING_BITS)


def kept_duties(names):
    return kept_names(names, DUTY_BITS)


def need_named(licence, strings, duties):
    if not is_mask(licence.strings | licence.bars, len(strings)):
        raise BadTerms(licence.key)
    # What is asked at a lesser closeness is asked at the greatest one, too.
    if not is_mask(licence.asks[-1], len(duties)):
        raise BadAsks(licence.key)


def kept_licences(licences, strings, duties):
    if not isinstance(licences, (list, tuple)):
        raise NoKey(licences)
    if len(licences) > MOST_LICENCES:
        raise TooMany(len(licences))
    kept = {}
    for licence in licences:
        if not isinstance(licence, Licence):
            raise NoKey(licence)
        if licence.key in kept:
            raise Doubled(licence.key)
        need_named(licence, strings, duties)
        kept[licence.key] = licence
    return kept


class Book:
    def __init__(self, strings, duties, licences):
        # Which of two refusals is given hangs on the order of these rows.
        self.strings = kept_strings(strings)
        self.duties = kept_duties(duties)
        self.by_key = kept_licences(licences, self.strings, self.duties)

    def string_names(self):
        return list(self.strings)

    def duty_names(self):
        return list(self.duties)

    def all_keys(self):
        return list(self.by_key)

    def licence(self, key):
        # A tuple with a truth as its number is equal to a key, and a list can't be looked up at all.
        if not is_key(key) or key not in self.by_key:
            raise NoKey(key)
        return self.by_key[key]

    def coverers(self, key):
        covered = self.licence(key)
        return [other for other in self.by_key if self.by_key[other].covers(covered)]


def copied_book(book):
    return Book(book.string_names(), book.duty_names(), [book.licence(key) for key in book.all_keys()])
