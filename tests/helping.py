"""What several tests have in common: asking for a refusal, licences with little written out, things of other kinds."""

import unittest

from grantweave.errors import GrantError
from grantweave.licences import Licence, Terms

THIRTY = 10 ** 30 - 1
DEEDS = ("use", "give", "join", "change", "sell")
JOINS = ("called", "beside", "joined", "changed")


def licence(key=("share", 2), lets=0, strings=0, bars=0, reach=0, same=False, asks=None, first=0, last=9999,
            lasting=True):
    return Licence(key, lets, strings, bars, reach, same, asks, first, last, lasting)


def nested(depth):
    thing = []
    for step in range(depth):
        thing = [thing]
    return thing


ODD_THINGS = [None, True, False, 0, 1, -1, THIRTY, -THIRTY, "", "Ab", "a b", "abcdefghi", "share.2", (), ("a",), ("a", True),
              ("share", False), ("a", 1, 2), ("a", 100), ("a", -1), ["a", 1], [], [[]], {}, {"a": 1}, {1: "a"}, nested(29),
              Terms(0, 0, 0, 0), licence()]


class Refusing(unittest.TestCase):
    def refused(self, error, held, make):
        with self.assertRaises(GrantError) as caught:
            make()
        self.assertIs(type(caught.exception), error)
        self.alike(list(vars(caught.exception).values()), [held])

    def alike(self, one, other):
        self.assertIs(type(one), type(other))
        if isinstance(one, (tuple, list)):
            self.assertEqual(len(one), len(other))
            for first, second in zip(one, other):
                self.alike(first, second)
        elif isinstance(one, dict):
            self.alike(list(one.items()), list(other.items()))
        else:
            self.assertEqual(one, other)
