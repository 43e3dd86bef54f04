"""Terms and licences, and by what the one doesn't cover the other."""

from grantweave.errors import BadAsks, BadTerms, NoDay, NoKey
from grantweave.words import is_day, is_key, is_mask, is_whole, least_bit

DEED_BITS = 5
STRING_BITS = 6
DUTY_BITS = 6
GREATEST_REACH = 3
JOIN_COUNT = 4


def least_beyond(mask, bound):
    return least_bit(mask & ~bound)


def are_terms(lets, strings, bars, reach):
    if not is_mask(lets, DEED_BITS):
        return False
    if not is_mask(strings, STRING_BITS) or not is_mask(bars, STRING_BITS):
        return False
    if (strings & bars) != 0:
        return False
    return is_whole(reach) and 0 <= reach <= GREATEST_REACH


def are_asks(thing):
    if not isinstance(thing, (list, tuple)) or len(thing) != JOIN_COUNT:
        return False
    if not all([is_mask(mask, DUTY_BITS) for mask in thing]):
        return False
    return all([least_beyond(looser, closer) is None for looser, closer in zip(thing[:-1], thing[1:])])


def need_truth(thing):
    if not isinstance(thing, bool):
        raise BadTerms(thing)


def need_span(first, last):
    if not is_day(first):
        raise NoDay(first)
    if not is_day(last) or last < first:
        raise NoDay(last)


def kept_asks(asks):
    if asks is None:
        return (0, 0, 0, 0)
    if not are_asks(asks):
        raise BadAsks(asks)
    return tuple(asks)


class Terms:
    def __init__(self, lets, strings, bars, reach):
        if not are_terms(lets, strings, bars, reach):
            raise BadTerms((lets, strings, bars, reach))
        self.lets = lets
        self.strings = strings
        self.bars = bars
        self.reach = reach

    def fault(self, other):
        deed = least_beyond(self.lets, other.lets)
        if deed is not None:
            return ("lets", deed)
        string = least_beyond(other.strings, self.strings)
        if string is not None:
            return ("string", string)
        bar = least_beyond(other.bars, self.bars)
        if bar is not None:
            return ("bar", bar)
        if self.reach > other.reach:
            return ("reach", self.reach)
        if other.wants_same() and not self.is_later(other):
            return ("same",)
        return None

    def covers(self, other):
        return self.fault(other) is None

    def wants_same(self):
        return False

    def is_later(self, other):
        # Terms of one's own have no word and no number, so they are later than none.
        return False

    def told(self):
        return (self.lets, self.strings, self.bars, self.reach)


class Licence(Terms):
    def __init__(self, key, lets, strings, bars, reach, same=False, asks=None, first=0, last=9999, lasting=True):
        # Which of two refusals is given hangs on the order of these rows.
        if not is_key(key):
            raise NoKey(key)
        Terms.__init__(self, lets, strings, bars, reach)
        need_truth(same)
        four_asks = kept_asks(asks)
        need_span(first, last)
        need_truth(lasting)
        self.key = key
        self.same = same
        self.asks = four_asks
        self.first = first
        self.last = last
        self.lasting = lasting

    def wants_same(self):
        return self.same

    def is_later(self, other):
        return self.same and self.key[0] == other.key[0] and self.key[1] >= other.key[1]

    def told(self):
        return (self.key, self.lets, self.strings, self.bars, self.reach, self.same, self.asks,
                self.first, self.last, self.lasting)
