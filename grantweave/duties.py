"""The duties of offers and of choices, and the choice that asks the fewest."""

from grantweave.errors import NoChoice, NoKey
from grantweave.joins import fits
from grantweave.whole import choice_fits, need_unstopped, offered_parts, stops
from grantweave.words import bits_of
from grantweave.works import has_offer


def asked_mask(book, offer, closeness):
    return book.licence(offer).asks[closeness]


def duties_of(book, work, name, offer):
    part = work.at(name)
    if not has_offer(part, offer):
        raise NoKey(offer)
    duties = book.duty_names()
    return [duties[place] for place in bits_of(asked_mask(book, offer, work.closeness_of(name)))]


def burden(mask):
    return (len(bits_of(mask)), mask)


def least_offer(book, offers, closeness):
    # Of offers that ask alike, min tells the one that stands first.
    return min(offers, key=lambda offer: burden(asked_mask(book, offer, closeness)))


def least_choice(book, work, key):
    need_unstopped(stops(book, work, key))
    other = book.licence(key)
    choice = {}
    for part, closeness in offered_parts(work):
        fitting = [offer for offer in part.offers if fits(book.licence(offer), closeness, other)]
        choice[part.name] = least_offer(book, fitting, closeness)
    return choice


def due_rows(book, work, key, choice):
    if not choice_fits(book, work, key, choice):
        raise NoChoice(choice)
    parts = offered_parts(work)
    rows = []
    for place, duty in enumerate(book.duty_names()):
        for part, closeness in parts:
            offer = choice[part.name]
            if place in bits_of(asked_mask(book, offer, closeness)):
                rows.append((duty, part.name, offer))
    return rows
