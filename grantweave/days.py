"""What days change: which parts may still be held, and which keys are told on a day."""

from grantweave.errors import NoDay
from grantweave.whole import need_known, offered_parts, part_faults, stopping_rows
from grantweave.words import is_day


def need_day(day):
    if not is_day(day):
        raise NoDay(day)


def day_fault(licence, taken, day):
    if not licence.first <= taken <= licence.last:
        return ("taken", taken)
    if not licence.lasting and licence.last < day:
        return ("ended", licence.last)
    return None


def still(licence, taken, day):
    need_day(taken)
    need_day(day)
    if taken > day:
        raise NoDay(taken)
    return day_fault(licence, taken, day) is None


def need_days(book, work, taken, day):
    need_known(book, work)
    need_day(day)
    if not isinstance(taken, dict):
        raise NoDay(taken)
    for part, closeness in offered_parts(work):
        if part.name not in taken:
            raise NoDay(part.name)
        if not is_day(taken[part.name]) or taken[part.name] > day:
            raise NoDay(taken[part.name])


def offer_faults(book, part, closeness, other, taken, day):
    faults = []
    for offer, fault in part_faults(book, part, closeness, other):
        gone = day_fault(book.licence(offer), taken[part.name], day)
        faults.append((offer, fault if gone is None else gone))
    return faults


def stops_on(book, work, taken, day, key):
    other = book.licence(key)
    need_days(book, work, taken, day)
    return stopping_rows(work, lambda part, closeness: offer_faults(book, part, closeness, other, taken, day))


def told_on(book, work, taken, day):
    need_days(book, work, taken, day)
    return [key for key in book.all_keys() if not stops_on(book, work, taken, day, key)]
