"""What several tests have in common: asking for a refusal, things of other kinds, books and works by chance."""

import unittest

from grantweave.book import Book
from grantweave.errors import GrantError
from grantweave.licences import Licence, Terms
from grantweave.works import Part

THIRTY = 10 ** 30 - 1
DEEDS = ("use", "give", "join", "change", "sell")
LETTERS = "abcdefghijklmnopqrstuvwxyz"
JOINS = ("called", "beside", "joined", "changed")


def licence(key=("share", 2), lets=0, strings=0, bars=0, reach=0, same=False, asks=None, first=0, last=9999,
            lasting=True):
    return Licence(key, lets, strings, bars, reach, same, asks, first, last, lasting)


def nested(depth):
    thing = []
    for step in range(depth):
        thing = [thing]
    return thing


ODD_THINGS = [None, True, False, 0, 1, -1, THIRTY, -THIRTY, "", "Ab", "a b", "abcdefghi", "share.2", (), ("a",), ("a", True),
              ("share", False), ("a", 1, 2), ("a", 100), ("a", -1), ["a", 1], [], [[]], {}, {"a": 1}, {1: "a"}, nested(29),
              Terms(0, 0, 0, 0), licence()]
# Nothing among these is a name of a part, or a key of a book, in the tests that ask for them.
NO_NAMES = ODD_THINGS + ["x", "App", "app ", ["app"], ("app",)]
NO_KEYS = ODD_THINGS + [("gone", 1), "free.1", ["free", 1], ("free", True), ("share", True), ("Free", 1), ("free", 3),
                        (("free", 1),)]


def any_book(chance, many=6):
    """A book by chance; of few strings and deeds, so that licences often cover one another."""
    strings, duties = ["open", "named", "kept"], ["list", "copy", "quote"]
    licences = []
    for number in range(many):
        laid = chance.choice([0, 0, 1, 1, 2, 5])
        asks = [chance.choice([0, 0, 1, 2])]
        for step in range(3):
            asks.append(asks[-1] | chance.choice([0, 0, 1, 2, 4]))
        licences.append(licence((chance.choice(["free", "share"]), number), chance.choice([7, 15, 15, 31, 31, 31]), laid,
                                chance.choice([0, 0, 0, 2, 4]) & ~laid, chance.choice([0, 1, 2, 3, 3]),
                                chance.random() < 0.3, asks))
    chance.shuffle(licences)
    return Book(strings, duties, licences)


def dated_book(chance, many, in_time=False):
    """A book by chance as any_book tells, its licences of days from 0 to 12; in time: of day 5, and lasting."""
    plain = any_book(chance, many)
    licences = []
    for key in plain.all_keys():
        first = chance.choice([0, 0, 1, 3])
        last = chance.choice([5, 8, 10, 9999])
        licences.append(licence(*plain.licence(key).told()[:7], first, last, in_time or chance.random() < 0.5))
    return Book(plain.string_names(), plain.duty_names(), licences)


def days_for(chance, work, day):
    return {name: chance.randrange(day + 1) for name in work.all_names()}


def any_work(chance, keys, many):
    """A work by chance of so many parts at most, each beneath a part ahead of it."""
    rows = [[-1, None, chance.sample(keys, chance.randrange(3))]]
    deep = [1]
    for number in range(1, many):
        under = chance.randrange(number)
        if deep[under] < 6 and [row[0] for row in rows].count(under) < 6:
            rows.append([under, chance.choice(JOINS), chance.sample(keys, chance.choice([0, 1, 1, 2, 2]))])
            deep.append(deep[under] + 1)
        else:
            break
    parts = [None] * len(rows)
    for place in range(len(rows) - 1, -1, -1):
        beneath = [(row[1], parts[other]) for other, row in enumerate(rows) if row[0] == place]
        parts[place] = Part(part_name(place), rows[place][2], beneath)
    return parts[0]


def part_name(number):
    return "p" + LETTERS[number // 26] + LETTERS[number % 26]


def from_told(told):
    name, offers, beneath = told
    return Part(name, offers, [(word, from_told(inner)) for word, inner in beneath])


def in_reading_order(told, closeness=3):
    """Each part's name, offers and closeness, by the words of point 4, from a work told in full."""
    name, offers, beneath = told
    rows = [(name, offers, closeness)]
    for word, inner in beneath:
        rows.extend(in_reading_order(inner, min(closeness, JOINS.index(word))))
    return rows


def due_fault(one, closeness, other):
    """The fault of an offer's licence, by the words of points 22 and 33, bit by bit."""
    for deed in range(closeness + 1):
        if one.lets // 2 ** deed % 2 == 0:
            return ("deed", deed)
    if one.reach > closeness:
        return None
    for deed in range(5):
        if other.lets // 2 ** deed % 2 == 1 and one.lets // 2 ** deed % 2 == 0:
            return ("lets", deed)
    for string in range(6):
        if one.strings // 2 ** string % 2 == 1 and other.strings // 2 ** string % 2 == 0:
            return ("string", string)
    for string in range(6):
        if one.bars // 2 ** string % 2 == 1 and other.bars // 2 ** string % 2 == 0:
            return ("bar", string)
    if other.reach > one.reach:
        return ("reach", other.reach)
    if one.same and not (other.same and other.key[0] == one.key[0] and other.key[1] >= one.key[1]):
        return ("same",)
    return None


class Refusing(unittest.TestCase):
    def refused(self, error, held, make):
        with self.assertRaises(GrantError) as caught:
            make()
        self.assertIs(type(caught.exception), error)
        self.alike(list(vars(caught.exception).values()), [held])

    def alike(self, one, other):
        self.assertIs(type(one), type(other))
        if isinstance(one, (tuple, list)):
            self.assertEqual(len(one), len(other))
            for first, second in zip(one, other):
                self.alike(first, second)
        elif isinstance(one, dict):
            self.alike(list(one.items()), list(other.items()))
        else:
            self.assertEqual(one, other)
