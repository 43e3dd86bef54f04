"""Under which licences of a book a whole work is told, and which parts stop the others."""

from grantweave.errors import Stopped
from grantweave.joins import fit_fault, fits
from grantweave.works import closeness_along, has_offer, walked


def offered_parts(work):
    # A part without offers is the giver's own: it asks nothing.
    return [(part, closeness_along(road)) for road, part in walked(work) if part.offers]


def need_known(book, work):
    for road, part in walked(work):
        for offer in part.offers:
            # Asked for its refusal alone.
            book.licence(offer)


def need_key(book, work, key):
    # The key is refused ahead of the offers.
    book.licence(key)
    need_known(book, work)


def part_faults(book, part, closeness, other):
    return [(offer, fit_fault(book.licence(offer), closeness, other)) for offer in part.offers]


def all_at_fault(faults):
    return all([fault is not None for offer, fault in faults])


def faults_at(book, work, name, key):
    part = work.at(name)
    need_key(book, work, key)
    return part_faults(book, part, work.closeness_of(name), book.licence(key))


def stopping_rows(work, faults_of):
    rows = []
    for part, closeness in offered_parts(work):
        faults = faults_of(part, closeness)
        if all_at_fault(faults):
            rows.append((part.name, faults))
    return rows


def stops(book, work, key):
    need_key(book, work, key)
    other = book.licence(key)
    return stopping_rows(work, lambda part, closeness: part_faults(book, part, closeness, other))


def need_unstopped(stopping):
    if stopping:
        raise Stopped(stopping[0][0])


def told_keys(book, work):
    need_known(book, work)
    return [key for key in book.all_keys() if not stops(book, work, key)]


def is_least(book, key, told):
    licence = book.licence(key)
    covered = [book.licence(other) for other in told if licence.covers(book.licence(other))]
    return all([other.covers(licence) for other in covered])


def least_told(book, work):
    told = told_keys(book, work)
    return [key for key in told if is_least(book, key, told)]


def is_fitting_offer(book, part, closeness, offer, other):
    return has_offer(part, offer) and fits(book.licence(offer), closeness, other)


def choice_fits(book, work, key, choice):
    need_key(book, work, key)
    parts = offered_parts(work)
    if not isinstance(choice, dict) or len(choice) != len(parts):
        return False
    other = book.licence(key)
    return all([is_fitting_offer(book, part, closeness, choice.get(part.name), other) for part, closeness in parts])
